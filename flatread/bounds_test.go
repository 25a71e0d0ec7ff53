package flatread_test

import (
	"strconv"
	"testing"

	"transom/api"
	"transom/flatread"
	"transom/wire"
)

// chain: a message of so many structs in one another; the innermost's second field is what parts tell. Behind it stands as much as may be reached.
func chain(count int, inner ...any) []byte {
	name := func(i int) string { return "t" + strconv.Itoa(i) }
	l := []any{to(name(1)), at("outer"), short(6, 8, 4), at("inner"), short(8, 8, 0, 4)}
	for i := 1; i < count; i++ {
		l = append(l, at(name(i)), from("outer"), to(name(i+1)))
	}
	l = append(l, at(name(count)), from("inner"))
	return message(parts(l, inner, []any{zeros(20*count + 60)})...)
}

// within: a value in so many structs of S { s: S; x: .. }, of which the innermost has it.
func within(count int, v api.Val) api.Val {
	v = there(api.Val{}, v)
	for range count - 1 {
		v = there(v, api.Val{})
	}
	return v
}

// P10.1, P8: no deeper than MaxNest: structs, and lists that aren't empty; bytes and empty lists aren't deep.
func TestDeep(t *testing.T) {
	empty := []any{to("x"), at("x"), long(0)}
	for _, x := range []struct {
		field string
		deep  int // of what is in the innermost struct
		inner []any
		v     api.Val
	}{
		{"text", 0, []any{to("x"), at("x"), long(1), "a\x00"}, raw("a")},
		{"data", 0, []any{to("x"), at("x"), long(1), "a"}, raw("a")},
		{"T", 1, []any{to("x"), at("m"), short(4, 4), at("x"), from("m")}, there(num(0))},
		{"list<u8>", 0, empty, many()},
		{"list<u8>", 1, []any{to("x"), at("x"), long(1), "\x03"}, many(num(3))},
		{"list<text>", 1, []any{to("x"), at("x"), long(1), to("y"), at("y"), long(1), "a\x00"}, many(raw("a"))},
		{"list<T>", 0, empty, many()},
		{"list<T>", 2, []any{to("x"), at("x"), long(1), to("y"), at("m"), short(4, 4), at("y"), from("m")}, many(there(num(0)))},
		{"list<list<list<u8>>>", 0, empty, many()},
		{"list<list<list<u8>>>", 1, []any{to("x"), at("x"), long(1), to("y"), at("y"), long(0)}, many(many())},
		{"list<list<list<u8>>>", 2, []any{to("x"), at("x"), long(1), to("y"), at("y"), long(1), to("z"), at("z"), long(0)}, many(many(many()))},
		{"list<list<list<u8>>>", 3, []any{to("x"), at("x"), long(1), to("y"), at("y"), long(1), to("z"), at("z"), long(2), "\x03\x04"}, many(many(many(num(3), num(4))))},
		{"list<list<list<T>>>", 4, []any{to("x"), at("x"), long(1), to("y"), at("y"), long(1), to("z"), at("z"), long(1), to("u"), at("m"), short(4, 4), at("u"), from("m")}, many(many(many(there(num(0)))))},
	} {
		s := read(t, "struct T { y: u8; } struct S { s: S; x: "+x.field+"; } root S;")
		for count := 5; count <= 15; count++ {
			wantEither(t, x.field, s, chain(count, x.inner...), count+x.deep <= api.MaxNest, within(count, x.v))
		}
	}
	s := read(t, `struct S { s: S; x: u32 = 5; } root S;`)
	for count := 1; count <= 15; count++ {
		wantEither(t, "structs in structs", s, chain(count, long(7)), count <= api.MaxNest, inStructs(count, 7))
	}
}

// inStructs: so many of S { s: S; x: u32 = 5; } in one another, of which the innermost has a number.
func inStructs(count, n int) api.Val {
	v := there(api.Val{}, num(n))
	for range count - 1 {
		v = there(v, num(5))
	}
	return v
}

// P10.1, P8: what is reached more often than once counts as often; all together is at most the message's length.
func TestReached(t *testing.T) {
	for _, x := range []struct {
		field   string
		object  []any // to which all elements point
		reached int   // of one element
		v       api.Val
	}{
		{"text", []any{at("x"), long(5), "abcde\x00"}, 10, raw("abcde")},
		{"text", []any{at("x"), long(0), "\x00"}, 5, raw("")},
		{"data", []any{at("x"), long(5), "abcde"}, 9, raw("abcde")},
		{"data", []any{at("x"), long(0)}, 4, raw("")},
		{"list<u64>", []any{at("x"), long(0)}, 4, many()},
		{"list<bool>", []any{at("x"), long(3), "\x01\x00\x01"}, 7, many(num(1), num(0), num(1))},
		{"list<u16>", []any{at("x"), long(3), short(1, 2, 3)}, 10, many(num(1), num(2), num(3))},
		{"list<u32>", []any{at("x"), long(3), long(1), long(2), long(3)}, 16, many(num(1), num(2), num(3))},
		{"list<u64>", []any{at("x"), long(1), sized(7, 8)}, 12, many(num(7))},
		{"list<data>", []any{at("x"), long(2), to("y"), to("y"), at("y"), long(1), "a"}, 22, many(raw("a"), raw("a"))},
		{"T", []any{at("m"), short(4, 4), at("x"), from("m")}, 8, there(num(3))},
		{"T", []any{at("m"), short(6, 5, 4), at("x"), from("m"), "\x07"}, 11, there(num(7))},
		{"T", []any{at("m"), short(12, 7, 4, 5, 5, 5), at("x"), from("m"), "\x07--"}, 19, there(num(7))},
		{"list<T>", []any{at("m"), short(6, 5, 4), at("x"), long(2), to("u"), to("u"), at("u"), from("m"), "\x07"}, 34, many(there(num(7)), there(num(7)))},
		{"list<T>", []any{at("x"), long(0)}, 4, many()},
	} {
		s := read(t, "struct T { x: u8 = 3; } struct S { l: list<"+x.field+">; } root S;")
		for count := 1; count < 9; count++ {
			l := []any{to("t"), at("l"), short(6, 8, 4), at("t"), from("l"), to("n"), at("n"), long(count)}
			var v api.Val
			for range count {
				l = append(l, to("x"))
				v.Kids = append(v.Kids, x.v)
			}
			b := message(parts(l, x.object)...)
			want := 6 + 8 + 4 + 4*count + count*x.reached
			for len(b) < want-3 {
				b = append(b, 0)
			}
			for range 7 {
				wantEither(t, x.field, s, b, want <= len(b), there(v))
				b = append(b, 0)
			}
		}
	}
}

// P10.1: a table's list counts with each table that has it, and all of its size.
func TestReachedOfTheRoot(t *testing.T) {
	s := read(t, small)
	for size := 4; size < 40; size += 2 {
		for table := 5; table < 30; table++ {
			b := message(to("t"), at("t"), from("l"), "\x07", at("l"), short(size, table, 4))
			b = append(b, make([]byte, max(0, 9+size-len(b), 4+table-len(b)))...)
			want := 7
			if size == 4 {
				want = 3
			}
			for range 30 {
				wantEither(t, "a table and its list in one another", s, b, size+table <= len(b), there(num(want)))
				b = append(b, 0)
			}
		}
	}
}

// P10.1: what isn't gone through isn't reached.
func TestNotReached(t *testing.T) {
	s := read(t, `struct T { x: u8; } struct S { a: T; } root S;`)
	object := []any{at("m"), short(6, 5, 4), at("x"), from("m"), "\x07"}
	b := message(parts([]any{to("t"), at("l"), short(12, 8, 4, 4, 4, 4), at("t"), from("l"), to("x")}, object)...)
	wantValue(t, "fields that the schema doesn't have", s, b, there(there(num(7))))
	s = read(t, `struct T { x: u8; } struct S { a: T; b: T; c: T; d: T; } root S;`)
	b = message(parts([]any{to("t"), at("l"), short(6, 8, 4), at("t"), from("l"), to("x")}, object)...)
	wantValue(t, "fields that aren't there", s, b, there(there(num(7)), api.Val{}, api.Val{}, api.Val{}))
}

// P10.1, P8: tables that would point to themselves, or back, by places that go round.
func TestRings(t *testing.T) {
	s := read(t, `struct S { s: S; l: list<list<S>>; } root S;`)
	for spare := range 300 {
		for back := range 40 {
			table := message(to("t"), at("l"), short(6, 8, 4), at("t"), from("l"), long(-back), zeros(spare))
			wantNone(t, "a table", s, table)
			list := message(to("t"), at("l"), short(8, 8, 0, 4), at("t"), from("l"), to("n"), at("n"), long(1), to("k"), at("k"), long(1), long(-back), zeros(spare))
			wantNone(t, "a list", s, list)
		}
	}
}

// P8: very many ways through a message are refused, within the bound.
func TestManyWays(t *testing.T) {
	s := read(t, `struct S { a: S; b: S; c: S; d: S; } root S;`)
	l := []any{to("t0"), at("l"), short(12, 20, 4, 8, 12, 16)}
	for i := range 600 {
		next := to("t" + strconv.Itoa(i+1))
		l = append(l, at("t"+strconv.Itoa(i)), from("l"), next, next, next, next)
	}
	b := message(append(l, at("t600"), zeros(1000))...)
	enough := 1000 + 100*(len(b)+8)*8
	if v, e := flatread.Read(s, b, wire.New(enough)); e != api.ErrMalformed || v != nil {
		t.Errorf("four ways at each of very many tables: %d", e)
	}
	s = read(t, `struct S { l: list<list<list<text>>>; } root S;`)
	l = []any{to("t"), at("l"), short(6, 8, 4), at("t"), from("l"), to("a")}
	for _, way := range []string{"ab", "bc", "cd"} {
		l = append(l, at(way[:1]), long(1000))
		for range 1000 {
			l = append(l, to(way[1:]))
		}
	}
	b = message(append(l, at("d"), long(1), "a\x00", zeros(1000))...)
	if v, e := flatread.Read(s, b, wire.New(enough)); e != api.ErrMalformed || v != nil {
		t.Errorf("a thousand ways at each of lists: %d", e)
	}
}

// P10.1, P3: with each budget the answer is ErrBudget, or that with plenty; with enough it isn't ErrBudget.
func TestBudgets(t *testing.T) {
	const text = `struct T { x: u8; t: text; } struct S { n: list<bool>; r: list<T>; s: S; } root S;`
	s := read(t, text)
	good := message(to("t"), at("l"), short(8, 12, 4, 8), at("t"), from("l"), to("n"), to("r"), at("n"), long(50), zeros(50),
		at("r"), long(2), to("a"), to("b"), at("m"), short(8, 9, 8, 4), at("a"), from("m"), to("c"), "\x01", at("b"), from("m"), to("d"), "\x02", zeros(10), at("c"), long(0), "\x00", at("d"), long(4), "abcd", "\x00")
	wrong := append(good[:len(good)-2:len(good)-2], "\xff\x00"...)
	for what, x := range map[string]struct {
		b    []byte
		want api.Errno
	}{"good": {good, api.OK}, "wrong at its end": {wrong, api.ErrMalformed}} {
		enough := 1000 + 100*(len(x.b)+8)*(len(text)+8)
		ends := 0
		for budget := -1; budget <= enough && ends < 100; budget++ {
			m := wire.New(budget)
			v, e := flatread.Read(s, x.b, m)
			switch {
			case e == api.ErrBudget && ends == 0 && budget < enough:
				if v != nil || m.Left() != 0 || !m.Out() {
					t.Errorf("%s, budget %d: %v beside ErrBudget, %d left", what, budget, v, m.Left())
				}
			case e == x.want && (e == api.OK) == (v != nil) && !m.Out():
				ends++
			default:
				t.Fatalf("%s, budget %d: error %d, %v", what, budget, e, v)
			}
		}
		if ends < 100 {
			t.Errorf("%s: it wants more than is enough", what)
		}
	}
}

// P3, P8: of the longest messages, too, what is enough is enough, whichever schema and request it is reckoned of.
func TestEnoughOfTheLongest(t *testing.T) {
	const most = api.MaxInput - 22 // what is behind the count
	fields := "x: E;"
	for i := range api.MaxFields - 1 {
		fields += "y" + string(rune('a'+i)) + ": text;"
	}
	pointing := func(count int, object ...any) []any { // all elements point to the same
		var l []any
		for range count {
			l = append(l, to("x"))
		}
		return append(append(l, at("x")), object...)
	}
	for what, x := range map[string]struct {
		field string
		count int
		kids  []any
	}{
		"bytes":            {"data", most, nil},
		"a text":           {"text", most - 1, nil},
		"bools":            {"list<bool>", most, nil},
		"enums":            {"list<E>", most, nil},
		"structs":          {"list<T>", most / 12, pointing(most/12, from("m"), at("m"), short(4, 4))},
		"bytes in a list":  {"list<data>", most / 8, pointing(most/8, long(0))},
		"lists in a list":  {"list<list<u64>>", most / 8, pointing(most/8, long(0))},
		"no texts":         {"list<text>", 0, nil},
		"texts in a list":  {"list<text>", most / 9, pointing(most/9, long(0), "\x00")},
		"numbers, 8 bytes": {"list<i64>", most / 8, nil},
	} {
		s := read(t, "enum E { a } struct T { "+fields+" } struct S { l: "+x.field+"; } root S;")
		b := message(parts([]any{to("t"), at("l"), short(6, 8, 4), at("t"), from("l"), to("n"), at("n"), long(x.count)}, x.kids)...)
		b = append(b, make([]byte, api.MaxInput-len(b))...)
		v, e := flatread.Read(s, b, wire.New(1000+100*(len(b)+8)*8))
		switch {
		case e != api.OK:
			t.Errorf("%s: error %d", what, e)
		case x.field != "data" && x.field != "text" && v.List(0).Len() != x.count:
			t.Errorf("%s: %d", what, v.List(0).Len())
		case (x.field == "data" || x.field == "text") && len(v.Bytes(0)) != x.count:
			t.Errorf("%s: %d bytes", what, len(v.Bytes(0)))
		}
	}
}
