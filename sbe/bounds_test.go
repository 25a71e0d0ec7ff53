package sbe_test

import (
	"encoding/binary"
	"math"
	"strings"
	"testing"

	"transom/api"
	"transom/capread"
	"transom/capwrite"
	"transom/flatread"
	"transom/flatwrite"
	"transom/sbe"
	"transom/view"
	"transom/wire"
)

// lengths: fields of any length, by how many of something they have: the form's bytes of none, and those that each adds.
var lengths = []struct {
	field      string
	head, each int
	of         func(count int) api.Val
}{
	{"data", 10, 1, func(n int) api.Val { return raw(strings.Repeat("\xff", n)) }},
	{"text", 10, 1, func(n int) api.Val { return raw(strings.Repeat("a", n)) }},
	{"list<bool>", 12, 1, func(n int) api.Val { return times(n, num(1)) }},
	{"list<i8>", 12, 1, func(n int) api.Val { return times(n, num(-1)) }},
	{"list<E>", 12, 1, func(n int) api.Val { return times(n, num(1)) }},
	{"list<i16>", 12, 2, func(n int) api.Val { return times(n, num(-2)) }},
	{"list<u32>", 12, 4, func(n int) api.Val { return times(n, num(7)) }},
	{"list<i64>", 12, 8, func(n int) api.Val { return times(n, num(-7)) }},
	{"list<data>", 12, 2, func(n int) api.Val { return times(n, raw("")) }},
	{"list<text>", 12, 3, func(n int) api.Val { return times(n, raw("a")) }},
	{"list<list<u32>>", 12, 4, func(n int) api.Val { return times(n, many()) }},
	{"list<list<list<T>>>", 12, 4, func(n int) api.Val { return times(n, many()) }},
	{"list<T>", 12, 1, func(n int) api.Val { return times(n, there(num(3))) }},
	{"list<P>", 12, 2, func(n int) api.Val { return times(n, there(raw(""))) }},
	{"list<data>", 14, 1, func(n int) api.Val { return many(raw(strings.Repeat("a", n))) }},
	{"list<list<u8>>", 16, 1, func(n int) api.Val { return many(times(n, num(9))) }},
	{"P", 14, 1, func(n int) api.Val { return there(raw(strings.Repeat("a", n))) }},
	{"list<P>", 14, 1, func(n int) api.Val { return many(there(raw(strings.Repeat("a", n)))) }},
	{"list<Q>", 12, 8, func(n int) api.Val { return times(n, there(none, none)) }},
}

// lengthSchema: of one field.
func lengthSchema(t *testing.T, field string) api.Schema {
	t.Helper()
	return read(t, "enum E { a, b } struct T { x: u8; } struct P { d: data; } struct Q { a: T; b: list<P>; } struct S { x: "+field+"; } root S;")
}

// P12.2, P8: a form just as long as may be, and longer ones.
func TestLongestForms(t *testing.T) {
	for _, x := range lengths {
		s := lengthSchema(t, x.field)
		count := (api.MaxOutput - x.head) / x.each
		for _, more := range []int{-1, 0, 1, 2, count} {
			v := there(x.of(count + more))
			form := formOf(s, v)
			if len(form) != x.head+(count+more)*x.each {
				t.Fatalf("%s: %d bytes", x.field, len(form))
			}
			b, e := sbe.Write(s, view.Of(v), wire.New(plenty))
			switch {
			case more <= 0 && (e != api.OK || string(b) != form):
				t.Errorf("%s, %d more: error %d, %s", x.field, more, e, differ(string(b), form))
			case more > 0 && (e != api.ErrLarge || b != nil):
				t.Errorf("%s, %d more: error %d, %d bytes", x.field, more, e, len(b))
			}
			if y, e := sbe.Read(s, []byte(form), wire.New(plenty)); e != api.ErrMalformed || y != nil {
				t.Errorf("%s, longer than is read: error %d", x.field, e)
			}
		}
	}
}

// P12.1, P12.2: a message as long as is read, and longer ones; also of more elements, or bytes, than have room in 2 bytes.
func TestLongestMessages(t *testing.T) {
	for _, x := range lengths {
		s := lengthSchema(t, x.field)
		for count := (api.MaxInput-x.head)/x.each - 1; count < (api.MaxInput-x.head)/x.each+3; count++ {
			v := there(x.of(count))
			form := formOf(s, v)
			if len(form) <= api.MaxInput {
				wantRead(t, x.field, s, form, v)
				wantNone(t, x.field+", and bytes behind", s, form+zeros(api.MaxInput-len(form)+1))
				continue
			}
			for _, m := range []*wire.Meter{wire.New(plenty), wire.New(0), nil} { // R2: this error is asked for ahead of the budget
				if y, e := sbe.Read(s, []byte(form), m); e != api.ErrMalformed || y != nil {
					t.Errorf("%s, %d bytes: error %d", x.field, len(form), e)
				}
			}
		}
		for _, count := range []int{1<<16 - 1, 1 << 16, 1<<16 + 1} {
			if b, e := sbe.Write(s, view.Of(there(x.of(count))), wire.New(plenty)); e != api.ErrLarge || b != nil {
				t.Errorf("%s: %d of them: error %d, %d bytes", x.field, count, e, len(b))
			}
		}
	}
	s := lengthSchema(t, "data")
	for length := api.MaxInput - 3; length < api.MaxInput+4; length++ {
		v := there(raw(zeros(length - 10)))
		form := formOf(s, v)
		if b, e := sbe.Write(s, view.Of(v), wire.New(plenty)); e != api.OK || string(b) != form || len(form) != length {
			t.Errorf("%d bytes: error %d, %s", length, e, differ(string(b), form))
		}
		if length <= api.MaxInput {
			wantRead(t, "data", s, form, v)
		} else {
			wantNone(t, "data", s, form)
		}
	}
	wantNone(t, "far too long", s, zeros(1<<20))
}

// P12.2, P8: each piece may be the one that has no room any more.
func TestNoRoom(t *testing.T) {
	s := read(t, `struct T { x: u8; t: text; y: u64; } struct S { l: list<u8>; n: u64; a: T; b: list<T>; c: list<u64>; e: list<list<u64>>; g: list<data>; d: data; f: text; } root S;`)
	one := there(num(1), raw("abc"), num(2))
	v := there(none, num(-1), one, many(one, there(num(3), raw("efgh"), num(1))), many(num(4), num(5)), many(many(num(6)), many(), many(num(7))), many(raw("a"), raw("bc")), raw("mnopqrs"), raw("uvwx"))
	more := len(formOf(s, v))
	good := 0
	for pad := api.MaxOutput - more - 2; pad <= api.MaxOutput; pad++ {
		v.Kids[0] = times(pad, num(1))
		form := formOf(s, v)
		b, e := sbe.Write(s, view.Of(v), wire.New(plenty))
		switch {
		case len(form) > api.MaxOutput && (e != api.ErrLarge || b != nil):
			t.Errorf("%d bytes: error %d, %d bytes", len(form), e, len(b))
		case len(form) <= api.MaxOutput && (e != api.OK || string(b) != form):
			t.Errorf("%d bytes: error %d, %s", len(form), e, differ(string(b), form))
		case e == api.OK:
			good++
		}
	}
	if good != 3 {
		t.Errorf("%d had room", good)
	}
}

// endless is a list of so many elements, all alike.
type endless struct{ count int }

func (l endless) Len() int            { return l.count }
func (l endless) Num(int) uint64      { return 1 }
func (l endless) Bytes(int) []byte    { return []byte("a") }
func (l endless) Sub(int) view.View   { return holder{l} }
func (l endless) List(int) view.Items { return l }

// holder is a struct whose fields are all such a list.
type holder struct{ list endless }

func (x holder) Num(int) uint64            { return 0 }
func (x holder) Bytes(int) []byte          { return nil }
func (x holder) Sub(int) (view.View, bool) { return x, true }
func (x holder) List(int) view.Items       { return x.list }

// P1: lists longer than anything, and lists of fewer than no elements: a call ends.
func TestNoEnd(t *testing.T) {
	for _, x := range []string{"list<bool>", "list<u64>", "list<text>", "list<list<u8>>", "list<T>", "list<list<list<T>>>", "T"} {
		s := read(t, "struct T { x: u64; l: list<list<list<u16>>>; } struct S { x: "+x+"; } root S;")
		for _, count := range []int{1 << 15, 1 << 20, math.MaxInt32, 1 << 58, 1<<60 + 1, 1 << 61, 1<<61 + 1, 1 << 62, math.MaxInt - 1, math.MaxInt} {
			if b, e := sbe.Write(s, holder{endless{count}}, wire.New(math.MaxInt)); e != api.ErrLarge || b != nil {
				t.Errorf("%s, %d elements: error %d, %d bytes", x, count, e, len(b))
			}
			if b, e := sbe.Write(s, holder{endless{count}}, wire.New(1000)); e != api.ErrBudget || b != nil {
				t.Errorf("%s, %d elements, a small budget: error %d, %d bytes", x, count, e, len(b))
			}
		}
		for _, count := range []int{-1, math.MinInt} {
			none, _ := sbe.Write(s, holder{endless{0}}, wire.New(plenty))
			if b, e := sbe.Write(s, holder{endless{count}}, wire.New(plenty)); e != api.OK || string(b) != string(none) {
				t.Errorf("%s, %d elements: error %d, %x", x, count, e, b)
			}
		}
	}
}

// budgetSchema: of each sort of field, and a value of it.
const budgetText = `struct T { x: u8; t: text; } struct U { n: list<bool>; r: list<T>; } struct S { n: list<bool>; r: list<T>; u: U; l: list<list<u8>>; d: data; m: list<text>; } root S;`

func budgetValue() api.Val {
	u := there(times(3, num(1)), many(there(num(3), raw("é"))))
	return there(times(50, num(1)), many(there(num(1), raw("abc")), there(num(2), raw(""))), u, many(many(num(1), num(2)), many()), raw("\xff\xfe"), many(raw("x"), raw("yz")))
}

// P12.1, P3: with each budget the answer is ErrBudget, or that with plenty; with enough it isn't ErrBudget.
func TestReadBudgets(t *testing.T) {
	s := read(t, budgetText)
	good := formOf(s, budgetValue())
	for what, x := range map[string]struct {
		form string
		want api.Errno
	}{"good": {good, api.OK}, "wrong at its end": {good + "\x00", api.ErrMalformed}, "short of its end": {good[:len(good)-1], api.ErrMalformed}} {
		enough := 1000 + 100*(len(x.form)+8)*(len(budgetText)+8)
		out, ends := 0, 0
		for budget := -1; budget <= enough && ends < 100; budget++ {
			m := wire.New(budget)
			v, e := sbe.Read(s, []byte(x.form), m)
			switch {
			case e == api.ErrBudget && ends == 0 && budget < enough:
				out++
				if v != nil || m.Left() != 0 || !m.Out() {
					t.Errorf("%s, budget %d: %v beside ErrBudget, %d left", what, budget, v, m.Left())
				}
			case e == x.want && (e == api.OK) == (v != nil) && !m.Out():
				ends++
			default:
				t.Fatalf("%s, budget %d: error %d, %v", what, budget, e, v)
			}
		}
		if ends < 100 || out < 50 {
			t.Errorf("%s: %d budgets were too small", what, out)
		}
	}
}

// P12.2, P3: likewise.
func TestWriteBudgets(t *testing.T) {
	s := read(t, budgetText)
	large := budgetValue()
	large.Kids[0] = times(api.MaxOutput, num(1))
	for what, x := range map[string]struct {
		v    api.Val
		want api.Errno
	}{
		"good":      {budgetValue(), api.OK},
		"nothing":   {view.Default(s.Structs[s.Root]), api.OK},
		"too large": {large, api.ErrLarge},
	} {
		want := ""
		if x.want == api.OK {
			want = formOf(s, x.v)
		}
		out, ends := 0, 0
		for budget := -2; ends < 100; budget++ {
			m := wire.New(budget)
			b, e := sbe.Write(s, view.Of(x.v), m)
			switch {
			case e == api.ErrBudget && ends == 0 && budget < 1<<16:
				out++
				if b != nil || m.Left() != 0 || !m.Out() {
					t.Errorf("%s, budget %d: %x beside ErrBudget, %d left", what, budget, b, m.Left())
				}
			case e == x.want && string(b) == want && !m.Out():
				ends++
			default:
				t.Fatalf("%s, budget %d: error %d, %x", what, budget, e, b)
			}
		}
		if out < 4 {
			t.Errorf("%s: %d budgets were too small", what, out)
		}
	}
}

// R7, R10: a meter that is none, or out, has nothing.
func TestNoMeter(t *testing.T) {
	s := read(t, `struct S { x: u8; } root S;`)
	out := wire.New(5)
	out.Take(6)
	for _, m := range []*wire.Meter{nil, out, wire.New(0), wire.New(-1), wire.New(math.MinInt)} {
		if b, e := sbe.Write(s, view.Of(there(num(1))), m); e != api.ErrBudget || b != nil {
			t.Errorf("%x, error %d", b, e)
		}
		if v, e := sbe.Read(s, []byte(head(1, 0)+"\x01"), m); e != api.ErrBudget || v != nil {
			t.Errorf("%v, error %d", v, e)
		}
	}
}

// P3: a message that tells of far more than it has is ErrMalformed with what is enough, not ErrBudget.
func TestFarMoreIsTold(t *testing.T) {
	for _, field := range []string{"list<bool>", "list<u64>", "list<E>", "list<text>", "list<data>", "list<list<u8>>", "list<list<list<T>>>", "list<T>", "list<P>", "list<Q>", "data", "text"} {
		s := lengthSchema(t, field)
		size := map[string]int{"list<bool>": 1, "list<u64>": 8, "list<E>": 1, "list<T>": 1}[field]
		for _, behind := range []string{"", "\x00", zeros(5), zeros(50)} {
			form := head(0, 4) + short(size, 1<<16-1) + behind
			if field == "data" || field == "text" {
				form = head(0, 4) + short(1<<16-1) + behind
			}
			if v, e := sbe.Read(s, []byte(form), wire.New(1000+100*(len(form)+8)*8)); e != api.ErrMalformed || v != nil {
				t.Errorf("%s: %d bytes: error %d", field, len(form), e)
			}
		}
	}
}

// enough: for a request of that input, whatever its text is.
func enough(b []byte, schema string) *wire.Meter {
	return wire.New(1000 + 100*(len(b)+8)*(len(schema)+8))
}

// wideText: a schema's text, as short as may be, of a list of structs that have as many fields as may be.
func wideText(field string) string {
	wide := ""
	for i := range api.MaxFields {
		wide += string(rune('a'+i)) + ":list<U>;"
	}
	return "enum E{a}struct T{" + wide + "}struct U{x:u8;}struct S{l:" + field + ";}root S;"
}

// wantEnough checks that what is left of what is enough for a request is enough to write what was read with it; is the form too long?
func wantEnough(t *testing.T, what string, s api.Schema, v view.View, m *wire.Meter) (large bool) {
	t.Helper()
	want := formOf(s, view.Tree(s, s.Root, v))
	form, e := sbe.Write(s, v, m)
	if len(want) > api.MaxOutput {
		if e != api.ErrLarge {
			t.Errorf("%s: error %d", what, e)
		}
		return true
	}
	if e != api.OK || string(form) != want {
		t.Errorf("%s: error %d, %s", what, e, differ(string(form), want))
	}
	return false
}

// P3, P8, R10: what is enough for a request is enough to read a message in words and to write it in a row.
func TestEnoughOfWords(t *testing.T) {
	ofList := func(offset, code, count int) uint64 {
		return uint64(offset)<<2 | 1 | uint64(code)<<32 | uint64(count)<<35
	}
	large, good := 0, 0
	for what, x := range map[string]struct {
		field string
		words func(room int) []uint64 // behind the root's struct, which is a pointer to them
	}{
		"bits":                    {"list<bool>", func(room int) []uint64 { return []uint64{ofList(0, 1, 64*room)} }},
		"enums":                   {"list<E>", func(room int) []uint64 { return []uint64{ofList(0, 3, 4*room)} }},
		"bytes":                   {"data", func(room int) []uint64 { return []uint64{ofList(0, 2, 8*room)} }},
		"null":                    {"list<text>", func(room int) []uint64 { return []uint64{ofList(0, 6, room)} }},
		"structs of nothing":      {"list<U>", func(room int) []uint64 { return []uint64{ofList(0, 7, 0), uint64(room) << 2} }},
		"wide structs of nothing": {"list<T>", func(room int) []uint64 { return []uint64{ofList(0, 7, 0), uint64(room) << 2} }},
	} {
		text := wideText(x.field)
		s := read(t, text)
		for _, count := range []int{4, 10, 100, 200, 1000, api.MaxInput/8 - 1} {
			words := append([]uint64{1 << 48}, x.words(count-3)...)
			words = append(words, make([]uint64, count-len(words))...)
			b := binary.LittleEndian.AppendUint32(make([]byte, 4), uint32(count))
			for _, word := range words {
				b = binary.LittleEndian.AppendUint64(b, word)
			}
			m := enough(b, text)
			v, e := capread.Read(s, b, m)
			switch {
			case e != api.OK:
				t.Errorf("%s of %d words: read: error %d", what, count, e)
			case wantEnough(t, what, s, v, m):
				large++
			default:
				good++
			}
		}
	}
	if large < 3 || good < 25 {
		t.Errorf("too few: %d too large, %d others", large, good)
	}
}

// P3, P8, R10: and to read a message in a row, and to write it in all formats in which it can be written by now.
func TestEnoughOfRows(t *testing.T) {
	for _, x := range lengths {
		text := "enum E{a,b}struct T{x:u8;}struct P{d:data;}struct Q{a:T;b:list<P>;}struct S{x:" + x.field + ";}root S;"
		s := read(t, text)
		for _, length := range []int{x.head, 50, 1000, api.MaxInput} {
			b := []byte(formOf(s, there(x.of((length-x.head)/x.each))))
			for what, write := range map[string]func(api.Schema, view.View, *wire.Meter) ([]byte, api.Errno){"words": capwrite.Write, "tables": flatwrite.Write, "a row": sbe.Write} {
				m := enough(b, text)
				v, e := sbe.Read(s, b, m)
				if e != api.OK {
					t.Errorf("%s of %d bytes: error %d", x.field, length, e)
					continue
				}
				if _, e := write(s, v, m); e != api.OK && e != api.ErrLarge {
					t.Errorf("%s of %d bytes, in %s: error %d", x.field, length, what, e)
				}
			}
		}
	}
}

// P5, P6: a value that is read in any format has its one form in each other one, there and back.
func TestOneForm(t *testing.T) {
	s, v := read(t, allSorts), full()
	words, _ := capwrite.Write(s, view.Of(v), wire.New(plenty))
	tables, _ := flatwrite.Write(s, view.Of(v), wire.New(plenty))
	form := formOf(s, v)
	inWords, e1 := capread.Read(s, words, wire.New(plenty))
	inTables, e2 := flatread.Read(s, tables, wire.New(plenty))
	inRow, e3 := sbe.Read(s, []byte(form), wire.New(plenty))
	if e1 != api.OK || e2 != api.OK || e3 != api.OK {
		t.Fatal(e1, e2, e3)
	}
	for what, x := range map[string]view.View{"words": inWords, "tables": inTables, "a row": inRow, "a value": view.Of(v)} {
		if b, e := sbe.Write(s, x, wire.New(plenty)); e != api.OK || string(b) != form {
			t.Errorf("of %s: error %d, %s", what, e, differ(string(b), form))
		}
	}
	if b, e := capwrite.Write(s, inRow, wire.New(plenty)); e != api.OK || string(b) != string(words) {
		t.Errorf("into words: error %d, %s", e, differ(string(b), string(words)))
	}
	if b, e := flatwrite.Write(s, inRow, wire.New(plenty)); e != api.OK || string(b) != string(tables) {
		t.Errorf("into tables: error %d, %s", e, differ(string(b), string(tables)))
	}
}
