package jsonread_test

import (
	"math"
	"strings"
	"testing"

	"transom/api"
	"transom/capread"
	"transom/capwrite"
	"transom/flatread"
	"transom/flatwrite"
	"transom/jsonread"
	"transom/sbe"
	"transom/view"
	"transom/wire"
)

// times: as many of one value.
func times(count int, v api.Val) api.Val {
	var l api.Val
	for range count {
		l.Kids = append(l.Kids, v)
	}
	return l
}

// listed: the text of a list of as many of one element.
func listed(count int, element string) string {
	return "[" + strings.TrimSuffix(strings.Repeat(element+",", count), ",") + "]"
}

// P14.1, P8: no deeper than MaxNest: structs, and lists that aren't empty; all else isn't deep.
func TestDeep(t *testing.T) {
	for _, x := range []struct {
		field string
		deep  int // of what is in the innermost struct
		text  string
		v     api.Val
	}{
		{"u8", 0, "7", num(7)}, {"u64", 0, `"7"`, num(7)}, {"text", 0, `"a[[[{{{"`, raw("a[[[{{{")}, {"data", 0, `"61"`, raw("a")},
		{"T", 1, "{}", there(num(0))}, {"T", 1, `{"y":3}`, there(num(3))},
		{"list<u8>", 0, "[]", none}, {"list<u8>", 1, "[3]", many(num(3))}, {"list<u8>", 1, "[3,4]", many(num(3), num(4))},
		{"list<text>", 1, `["a"]`, many(raw("a"))}, {"list<T>", 0, "[ ]", none}, {"list<T>", 2, "[{}]", many(there(num(0)))},
		{"list<list<list<u8>>>", 0, "[]", none}, {"list<list<list<u8>>>", 1, "[[]]", many(none)}, {"list<list<list<u8>>>", 2, "[[],[[]]]", many(none, many(none))},
		{"list<list<list<u8>>>", 3, "[[[3,4]]]", many(many(many(num(3), num(4))))}, {"list<list<list<T>>>", 2, "[[[]],[[],[]]]", many(many(none), many(none, none))}, {"list<list<list<T>>>", 4, "[[[{}]]]", many(many(many(there(num(0)))))},
	} {
		s := read(t, "struct T { y: u8; } struct S { s: S; x: "+x.field+"; l: list<S>; } root S;")
		for count := 1; count <= 20; count++ {
			v, text := there(none, x.v, none), `{"x":`+x.text+`}`
			for range count - 1 {
				v, text = there(v, none, none), `{"s":`+text+`}`
			}
			ok := count+x.deep <= api.MaxNest
			wantEither(t, s, text, ok, v)
			wantEither(t, s, strings.ReplaceAll(text, ":", " : "), ok, v)
			v, text = there(none, x.v, none), `{"x":`+x.text+`}`
			deep := 1
			for range count - 1 {
				v, text = there(none, none, many(v)), `{"l":[`+text+`]}`
				deep += 2
			}
			wantEither(t, s, text, deep+x.deep <= api.MaxNest, v)
		}
	}
}

// P14.1, P8: how deep one kid is counts for no other one.
func TestDeepBesideShallow(t *testing.T) {
	s := read(t, `struct S { a: S; b: S; l: list<list<S>>; } root S;`)
	chain := func(count int) string {
		return strings.Repeat(`{"a":`, count-1) + "{}" + strings.Repeat("}", count-1)
	}
	for count := 9; count <= 14; count++ {
		one, ok := chain(count), count+1 <= api.MaxNest
		for _, text := range []string{`{"a":` + one + `,"b":` + one + `}`, `{"b":{},"a":` + one + `}`, `{"a":` + one + `,"b":{"b":{}}}`} {
			v, _ := denoted(s, text)
			wantEither(t, s, text, ok, v)
		}
		text := `{"l":[[],[` + one + `,{}],[` + one + `]],"a":{}}`
		v, _ := denoted(s, text)
		wantEither(t, s, text, count+3 <= api.MaxNest, v)
	}
	const most = 2000
	text := `{"l":[[` + strings.TrimSuffix(strings.Repeat("{},", most), ",") + `]]}`
	wantValue(t, s, text, there(none, none, many(times(most, there(none, none, none)))))
}

// P14.1, P8, P1: texts that only go deeper, of types that would, too.
func TestFarTooDeep(t *testing.T) {
	s := read(t, `struct S { s: S; l: list<list<list<S>>>; t: text; } root S;`)
	for _, one := range []string{`{"s":`, `{"l":[`, `{"l":[[[`, "[", "{", `{"l":`, `{"t":`, `{"s":{"l":[[[`} {
		text := strings.Repeat(one, api.MaxInput/len(one))
		wantNone(t, s, text)
		wantNone(t, s, `{"l":`+text[:len(text)-4])
		wantNone(t, s, `{"s":`+text[:len(text)-4])
	}
	text := strings.Repeat(`{"s":`, 2000) + "{}" + strings.Repeat("}", 2000)
	wantNone(t, s, text)
}

// lengths: fields of any length, by how many of something they have: the text of a whole message.
var lengths = []struct {
	field string
	text  func(n int) string
	of    func(n int) api.Val
}{
	{"data", func(n int) string { return `"` + strings.Repeat("ff", n) + `"` }, func(n int) api.Val { return raw(strings.Repeat("\xff", n)) }},
	{"text", func(n int) string { return `"` + strings.Repeat("a", n) + `"` }, func(n int) api.Val { return raw(strings.Repeat("a", n)) }},
	{"text", func(n int) string { return `"` + strings.Repeat(`\u00e9`, n) + `"` }, func(n int) api.Val { return raw(strings.Repeat("é", n)) }},
	{"text", func(n int) string { return `"` + strings.Repeat(`\n`, n) + `"` }, func(n int) api.Val { return raw(strings.Repeat("\n", n)) }},
	{"text", func(n int) string { return `"` + strings.Repeat("😀", n) + `"` }, func(n int) api.Val { return raw(strings.Repeat("😀", n)) }},
	{"list<u8>", func(n int) string { return listed(n, "7") }, func(n int) api.Val { return times(n, num(7)) }},
	{"list<bool>", func(n int) string { return listed(n, "true") }, func(n int) api.Val { return times(n, num(1)) }},
	{"list<i64>", func(n int) string { return listed(n, `"-1"`) }, func(n int) api.Val { return times(n, num(-1)) }},
	{"list<E>", func(n int) string { return listed(n, `"b"`) }, func(n int) api.Val { return times(n, num(1)) }},
	{"list<text>", func(n int) string { return listed(n, `""`) }, func(n int) api.Val { return times(n, raw("")) }},
	{"list<data>", func(n int) string { return listed(n, ` "0a"`) }, func(n int) api.Val { return times(n, raw("\n")) }},
	{"list<list<u32>>", func(n int) string { return listed(n, "[]") }, func(n int) api.Val { return times(n, none) }},
	{"list<list<u32>>", func(n int) string { return listed(n, "[0]") }, func(n int) api.Val { return times(n, many(num(0))) }},
	{"list<list<list<T>>>", func(n int) string { return listed(n, "[[{}]]") }, func(n int) api.Val { return times(n, many(many(wide()))) }},
	{"list<T>", func(n int) string { return listed(n, "{}") }, func(n int) api.Val { return times(n, wide()) }},
	{"u8", func(n int) string { return strings.Repeat(" ", n) + "7" }, func(n int) api.Val { return num(7) }},
	{"T", func(n int) string { return "{" + strings.Repeat("\n", n) + "}" }, func(n int) api.Val { return wide() }},
}

// wide: a struct T in which nothing is said.
func wide() api.Val {
	v := there(make([]api.Val, api.MaxFields)...)
	v.Kids[0].Num = 9
	return v
}

// lengthText: a schema's text, as short as may be, of one field, that may be a struct of as many fields as may be.
func lengthText(field string) string {
	fields := "a:u8=9;"
	for i := range api.MaxFields - 1 {
		fields += string(rune('b'+i)) + ":list<U>;"
	}
	return "enum E{a,b}struct T{" + fields + "}struct U{x:u8;}struct S{x:" + field + ";}root S;"
}

// P14.1: texts as long as may be, and longer ones, whatever makes them long.
func TestLongest(t *testing.T) {
	for _, x := range lengths {
		s := read(t, lengthText(x.field))
		whole := func(n int) string { return `{"x":` + x.text(n) + `}` }
		each := len(whole(3)) - len(whole(2))
		most := 2 + (api.MaxInput-len(whole(2)))/each
		for _, n := range []int{most - 1, most, most + 1} {
			text, v := whole(n), there(x.of(n))
			for length := max(len(text), api.MaxInput-2); length <= api.MaxInput+2; length++ {
				padding := strings.Repeat(" ", length-len(text))
				ok := length <= api.MaxInput
				wantEither(t, s, text+padding, ok, v)
				wantEither(t, s, padding+text, ok, v)
				wantEither(t, s, "{"+padding+text[1:], ok, v)
			}
			if len(text) > api.MaxInput {
				wantNone(t, s, text)
			}
		}
	}
}

// R2: a text that is too long is told ahead of the budget, and ahead of all that is wrong within.
func TestTooLong(t *testing.T) {
	s := read(t, small)
	out := wire.New(1)
	out.Take(2)
	for _, text := range []string{"{}" + strings.Repeat(" ", api.MaxInput-1), strings.Repeat("x", api.MaxInput+1), strings.Repeat("{", 1<<20)} {
		for _, m := range []*wire.Meter{wire.New(plenty), wire.New(0), nil, out} {
			if v, e := jsonread.Read(s, []byte(text), m); e != api.ErrMalformed || v != nil {
				t.Errorf("%d bytes: error %d, %v", len(text), e, v)
			}
		}
	}
}

// budgetText: of each sort of field, and a text of it.
const (
	budgetText  = `enum E { a, b } struct T { x: u8; t: text; } struct S { n: list<bool>; r: list<T>; u: T; l: list<list<u8>>; d: data; m: list<text>; e: E; w: i64; } root S;`
	budgetWhole = ` { "n" : [ true , false , true ] , "r" : [ { "x" : 1 , "t" : "abc" } , { } ] , "u" : {"t":"\u00e9\n"} , "l" : [ [ 1 , 22 ] , [ ] ] , "d" : "0aff" , "m" : [ "x" , "yz" ] , "e" : "b" , "w" : "-12" } `
)

// P14.1, P3: with each budget the answer is ErrBudget, or that with plenty; with enough it isn't ErrBudget.
func TestBudgets(t *testing.T) {
	s := read(t, budgetText)
	texts := map[string]api.Errno{budgetWhole: api.OK, budgetWhole + "x": api.ErrMalformed, budgetWhole[:len(budgetWhole)-2]: api.ErrMalformed, strings.Replace(budgetWhole, `"-12"`, `-12`, 1): api.ErrMalformed,
		strings.Replace(budgetWhole, `"e"`, `"m"`, 1): api.ErrMalformed, strings.Replace(budgetWhole, `ff`, `FF`, 1): api.ErrMalformed, strings.Replace(budgetWhole, `22`, `256`, 1): api.ErrMalformed}
	if len(texts) != 7 {
		t.Fatal(len(texts))
	}
	for text, want := range texts {
		enough := 1000 + 100*(len(text)+8)*(len(budgetText)+8)
		out, ends := 0, 0
		for budget := -1; budget <= enough && ends < 100; budget++ {
			m := wire.New(budget)
			v, e := jsonread.Read(s, []byte(text), m)
			switch {
			case e == api.ErrBudget && ends == 0 && budget < enough:
				out++
				if v != nil || m.Left() != 0 || !m.Out() {
					t.Errorf("%s, budget %d: %v beside ErrBudget, %d left", text, budget, v, m.Left())
				}
			case e == want && (e == api.OK) == (v != nil) && !m.Out():
				ends++
			default:
				t.Fatalf("%s, budget %d: error %d, %v", text, budget, e, v)
			}
		}
		if ends < 100 || out < 100 {
			t.Errorf("%s: %d budgets were too small", text, out)
		}
	}
}

// P3: of texts of any kind likewise, cut at each byte too.
func TestSmallBudgets(t *testing.T) {
	s := read(t, budgetText)
	for end := 0; end <= len(budgetWhole); end++ {
		text := []byte(budgetWhole[:end])
		_, want := jsonread.Read(s, text, wire.New(plenty))
		done := false
		for budget := 0; budget < 600; budget++ {
			v, e := jsonread.Read(s, text, wire.New(budget))
			if e != want && (e != api.ErrBudget || done) || (e == api.OK) != (v != nil) {
				t.Fatalf("%s, budget %d: error %d, %v", text, budget, e, v)
			}
			done = done || e == want
		}
		if !done {
			t.Errorf("%s: 600 aren't enough", text)
		}
	}
}

// R7, R10: a meter that is none, or out, has nothing.
func TestNoMeter(t *testing.T) {
	s := read(t, small)
	out := wire.New(5)
	out.Take(6)
	for _, text := range []string{`{"x":1}`, "{}", " {} ", `{"x":1`, "", "x"} {
		for _, m := range []*wire.Meter{nil, out, wire.New(0), wire.New(-1), wire.New(math.MinInt)} {
			if v, e := jsonread.Read(s, []byte(text), m); e != api.ErrBudget || v != nil {
				t.Errorf("%s: %v, error %d", text, v, e)
			}
		}
	}
}

// R10: the meter has paid for each byte, element and field that a view may tell.
func TestAllIsPaid(t *testing.T) {
	for _, x := range lengths {
		s := read(t, lengthText(x.field))
		for _, count := range []int{0, 10, 1000} {
			text := `{"x":` + x.text(count) + `}`
			if len(text) > api.MaxInput {
				continue
			}
			m := wire.New(plenty)
			if _, e := jsonread.Read(s, []byte(text), m); e != api.OK || plenty-m.Left() < count {
				t.Errorf("%s: error %d, %d steps", x.field, e, plenty-m.Left())
			}
			if x.field == "list<T>" && plenty-m.Left() < api.MaxFields*count {
				t.Errorf("the fields of %d structs aren't paid for: %d steps", count, plenty-m.Left())
			}
		}
	}
}

// P3, P8, R10: what is enough for a request is enough to read a text, and to write what it denotes in each format in which it can be written by now.
func TestEnough(t *testing.T) {
	for _, x := range lengths {
		schema := lengthText(x.field)
		s := read(t, schema)
		whole := func(n int) string { return `{"x":` + x.text(n) + `}` }
		each := len(whole(3)) - len(whole(2))
		for _, length := range []int{len(whole(2)), 50, 1000, api.MaxInput} {
			text := []byte(whole(2 + max(0, length-len(whole(2)))/each))
			for what, write := range map[string]func(api.Schema, view.View, *wire.Meter) ([]byte, api.Errno){"words": capwrite.Write, "tables": flatwrite.Write, "a row": sbe.Write} {
				m := wire.New(1000 + 100*(len(text)+8)*(len(schema)+8))
				v, e := jsonread.Read(s, text, m)
				if e != api.OK {
					t.Errorf("%s of %d bytes: error %d", x.field, length, e)
					continue
				}
				if _, e := write(s, v, m); e != api.OK && e != api.ErrLarge {
					t.Errorf("%s of %d bytes, in %s: error %d", x.field, length, what, e)
				}
			}
		}
	}
	for _, text := range []string{"", "{", "{}", strings.Repeat("{", api.MaxInput), strings.Repeat(" ", api.MaxInput), `{"t":"` + strings.Repeat("a", api.MaxInput-6), `{"x":` + strings.Repeat("1", api.MaxInput-5), `{"` + strings.Repeat("x", api.MaxInput-2)} {
		const shortest = "struct S{x:u8;}root S;"
		m := wire.New(1000 + 100*(len(text)+8)*(len(shortest)+8))
		if _, e := jsonread.Read(read(t, shortest), []byte(text), m); e == api.ErrBudget || (e == api.OK) != (text == "{}") {
			t.Errorf("%.20s: error %d", text, e)
		}
	}
}

// P5, P6: what a text denotes is written in other formats as that value is, wherever it stands, and read there as it.
func TestInOtherFormats(t *testing.T) {
	s := read(t, budgetText)
	v, ok := denoted(s, budgetWhole)
	if !ok {
		t.Fatal("the tests' own text")
	}
	wantValue(t, s, budgetWhole, v)
	x, _ := jsonread.Read(s, []byte(budgetWhole), wire.New(plenty))
	for what, f := range map[string]struct {
		write func(api.Schema, view.View, *wire.Meter) ([]byte, api.Errno)
		read  func(api.Schema, []byte, *wire.Meter) (view.View, api.Errno)
	}{"words": {capwrite.Write, capread.Read}, "tables": {flatwrite.Write, flatread.Read}, "a row": {sbe.Write, sbe.Read}} {
		want, _ := f.write(s, view.Of(v), wire.New(plenty))
		got, e := f.write(s, x, wire.New(plenty))
		if e != api.OK || string(got) != string(want) {
			t.Errorf("in %s: error %d, %x, not %x", what, e, got, want)
		}
		y, e := f.read(s, got, wire.New(plenty))
		if e != api.OK || !same(view.Tree(s, s.Root, y), v) {
			t.Errorf("of %s: error %d", what, e)
		}
	}
}
