package capread_test

import (
	"testing"

	"transom/api"
	"transom/capread"
	"transom/wire"
)

// chain: structs in one another, so many, each one word of a pointer; last is the innermost's pointer's word, and behind it stand words.
func chain(count int, last uint64, words ...uint64) []byte {
	var l []uint64
	for range count {
		l = append(l, ofStruct(0, 0, 1))
	}
	return message(append(append(l, last), words...)...)
}

// within: a value in so many structs of one field.
func within(count int, v api.Val) api.Val {
	for range count {
		v = there(v)
	}
	return v
}

// P8.1: structs no deeper than MaxNest.
func TestDeepStructs(t *testing.T) {
	s := read(t, `struct S { s: S; } root S;`)
	for count := 1; count <= 15; count++ {
		wantEither(t, "structs in structs", s, chain(count, 0), count <= api.MaxNest, within(count, api.Val{}))
		wantEither(t, "and one of nothing", s, chain(count, ofStruct(-1, 0, 0)), count < api.MaxNest, within(count, there(api.Val{})))
	}
}

// P8.1: what else is deep: lists that aren't empty, and structs in them; bytes, null and empty lists aren't.
func TestDeepLists(t *testing.T) {
	for _, x := range []struct {
		what  string
		field string
		deep  int // of what is in the innermost struct
		last  uint64
		words []uint64
		v     api.Val
	}{
		{"null", "list<u8>", 0, 0, nil, api.Val{}},
		{"an empty list", "list<u8>", 0, ofList(0, 2, 0), nil, api.Val{}},
		{"a list", "list<u8>", 1, ofList(0, 2, 1), []uint64{3}, many(num(3))},
		{"an empty list of structs", "list<T>", 0, ofList(0, 7, 0), []uint64{tag(0, 1, 0)}, api.Val{}},
		{"a list of structs", "list<T>", 2, ofList(0, 7, 1), []uint64{tag(1, 1, 0), 3}, many(there(num(3)))},
		{"a list of structs of nothing", "list<T>", 2, ofList(0, 7, 0), []uint64{tag(1, 0, 0)}, many(there(num(0)))},
		{"a text", "text", 0, ofList(0, 2, 2), []uint64{'a'}, raw("a")},
		{"data", "data", 0, ofList(0, 2, 1), []uint64{'a'}, raw("a")},
		{"a list of texts", "list<text>", 1, ofList(0, 6, 1), []uint64{ofList(0, 2, 2), 'a'}, many(raw("a"))},
		{"an empty list of lists", "list<list<list<u8>>>", 0, ofList(0, 6, 0), nil, api.Val{}},
		{"a list of null", "list<list<list<u8>>>", 1, ofList(0, 6, 1), []uint64{0}, many(api.Val{})},
		{"a list of an empty list", "list<list<list<u8>>>", 1, ofList(0, 6, 1), []uint64{ofList(0, 6, 0)}, many(api.Val{})},
		{"a list of a list of null", "list<list<list<u8>>>", 2, ofList(0, 6, 1), []uint64{ofList(0, 6, 1), 0}, many(many(api.Val{}))},
		{"a list of a list of an empty list", "list<list<list<u8>>>", 2, ofList(0, 6, 1), []uint64{ofList(0, 6, 1), ofList(0, 2, 0)}, many(many(api.Val{}))},
		{"a list of a list of a list", "list<list<list<u8>>>", 3, ofList(0, 6, 1), []uint64{ofList(0, 6, 1), ofList(0, 2, 1), 3}, many(many(many(num(3))))},
	} {
		s := read(t, "struct T { x: u8; } struct S { s: S; l: "+x.field+"; } root S;")
		for count := 5; count <= 14; count++ {
			words := []uint64{ofStruct(0, 0, 2)} // each struct is two words, the pointers of s and l
			for range count - 1 {
				words = append(words, ofStruct(1, 0, 2), 0)
			}
			words = append(words, 0, x.last)
			v := there(api.Val{}, x.v)
			for range count - 1 {
				v = there(v, api.Val{})
			}
			wantEither(t, x.what, s, message(append(append(words, x.words...), 0)...), count+x.deep <= api.MaxNest, v)
		}
	}
}

// P8.1, P8: what is reached more often than once counts as often; all together at most the number of words.
func TestReached(t *testing.T) {
	for _, x := range []struct {
		what, field string
		p           func(offset int) uint64
		words       []uint64 // to which all elements lead
		reached     int      // of one element
		v           api.Val
	}{
		{"texts", "text", func(o int) uint64 { return ofList(o, 2, 9) }, []uint64{chars("abcdefgh"), 0}, 2, raw("abcdefgh")},
		{"empty texts", "text", func(o int) uint64 { return ofList(o, 2, 1) }, []uint64{0}, 1, raw("")},
		{"data", "data", func(o int) uint64 { return ofList(o, 2, 8) }, []uint64{chars("abcdefgh")}, 1, raw("abcdefgh")},
		{"data of nothing", "data", func(o int) uint64 { return ofList(o, 2, 0) }, nil, 1, raw("")},
		{"lists of nothing", "list<u32>", func(o int) uint64 { return ofList(o, 4, 0) }, nil, 1, api.Val{}},
		{"lists of numbers", "list<u32>", func(o int) uint64 { return ofList(o, 4, 5) }, []uint64{1, 1, 1}, 3, many(num(1), num(0), num(1), num(0), num(1))},
		{"lists of a bit", "list<bool>", func(o int) uint64 { return ofList(o, 1, 1) }, []uint64{1}, 1, many(num(1))},
		{"lists of null", "list<text>", func(o int) uint64 { return ofList(o, 6, 3) }, []uint64{0, 0, 0}, 3, many(raw(""), raw(""), raw(""))},
		{"lists of structs", "list<T>", func(o int) uint64 { return ofList(o, 7, 4) }, []uint64{tag(2, 1, 1), 1, 2, 3, 2}, 5, many(there(num(1)), there(num(3)))},
		{"lists of structs of nothing", "list<T>", func(o int) uint64 { return ofList(o, 7, 0) }, []uint64{tag(2, 0, 0)}, 3, many(there(num(0)), there(num(0)))},
		{"lists of no structs", "list<T>", func(o int) uint64 { return ofList(o, 7, 0) }, []uint64{tag(0, 5, 5)}, 1, api.Val{}},
	} {
		s := read(t, "struct T { x: u8; } struct S { l: list<"+x.field+">; } root S;")
		for count := 1; count < 9; count++ {
			var l []uint64
			var v api.Val
			for i := range count {
				l = append(l, x.p(count-1-i))
				v.Kids = append(v.Kids, x.v)
			}
			l = append([]uint64{ofStruct(0, 0, 1), ofList(0, 6, count)}, append(l, x.words...)...)
			want := 1 + count + count*x.reached
			for len(l) < want-2 {
				l = append(l, 0)
			}
			for range 5 {
				wantEither(t, x.what, s, message(l...), want <= len(l), there(v))
				l = append(l, 0)
			}
		}
	}
}

// P8.1: structs that are reached more often than once; each has its words, its numbers' and its pointers', 1 at least.
func TestReachedStructs(t *testing.T) {
	s := read(t, `struct T { x: u8; } struct S { a: T; b: T; c: T; } root S;`)
	for nums := range 4 {
		for ptrs := range 4 {
			l := []uint64{ofStruct(0, 0, 3), ofStruct(2, nums, ptrs), ofStruct(1, nums, ptrs), ofStruct(0, nums, ptrs), 7, 7, 7, 7, 7, 7}
			if nums+ptrs == 0 {
				l[3] = 0
			}
			count := 3
			want := there(there(num(0)), there(num(0)), there(num(0)))
			if nums > 0 {
				want = there(there(num(7)), there(num(7)), there(num(7)))
			}
			if nums+ptrs == 0 {
				want.Kids[2], count = api.Val{}, 2
			}
			for n := 4 + nums + ptrs; n <= 10; n++ {
				wantEither(t, "a struct three times", s, message(l[:n]...), 3+count*max(1, nums+ptrs) <= n, want)
			}
		}
	}
}

// P8.1: what isn't gone through isn't reached.
func TestNotReached(t *testing.T) {
	s := read(t, `struct T { x: u8; } struct S { a: T; } root S;`)
	b := message(ofStruct(0, 0, 4), ofStruct(3, 1, 0), ofStruct(2, 1, 0), ofStruct(1, 1, 0), ofStruct(0, 1, 0), 7)
	wantValue(t, "pointers beyond the struct's own", s, b, there(there(num(7))))
	s = read(t, `struct S { l: list<text>; } root S;`)
	b = message(ofStruct(0, 0, 1), ofList(0, 6, 3), 0, 0, 0)
	wantValue(t, "null", s, b, there(many(raw(""), raw(""), raw(""))))
}

// P8.1, P8: what leads back into itself.
func TestRings(t *testing.T) {
	s := read(t, `struct S { s: S; l: list<list<list<S>>>; r: list<S>; } root S;`)
	for spare := range 200 {
		words := func(l ...uint64) []byte { return message(append(l, make([]uint64, spare)...)...) }
		wantNone(t, "a struct", s, words(ofStruct(0, 0, 1), ofStruct(-1, 0, 1)))
		wantNone(t, "the root's pointer", s, words(ofStruct(-1, 0, 1)))
		wantNone(t, "a list of structs", s, words(ofStruct(0, 0, 3), 0, 0, ofList(0, 7, 3), tag(1, 0, 3), 0, 0, ofList(-4, 7, 3)))
		wantNone(t, "two structs", s, words(ofStruct(0, 0, 1), ofStruct(0, 0, 1), ofStruct(-2, 0, 1)))
	}
	s = read(t, `struct S { a: S; b: S; c: S; d: S; } root S;`)
	l := make([]uint64, api.MaxInput/8-1)
	l[0] = ofStruct(0, 0, 4)
	for i := 1; i+8 <= len(l); i += 4 {
		for k := range 4 {
			l[i+k] = ofStruct(3-k, 0, 4)
		}
	}
	wantNone(t, "four ways at each of very many places", s, message(l...))
}

// P8.1, P3: with each budget the answer is ErrBudget, or that with plenty; with enough it isn't ErrBudget.
func TestBudgets(t *testing.T) {
	const text = `struct T { x: u8; t: text; } struct S { n: list<bool>; r: list<T>; s: S; } root S;`
	s := read(t, text)
	good := []uint64{ofStruct(0, 0, 3), ofList(2, 1, 100), ofList(3, 7, 4), 0, 5, 6, tag(2, 1, 1), 1, ofList(2, 2, 4), 3, 0, chars("abc")}
	wrong := append(good[:len(good):len(good)], 0)
	wrong[11] = chars("abc\xff")
	for what, x := range map[string]struct {
		words []uint64
		want  api.Errno
	}{"good": {good, api.OK}, "wrong at its end": {wrong, api.ErrMalformed}} {
		b := message(x.words...)
		enough := 1000 + 100*(len(b)+8)*(len(text)+8)
		ends := 0
		for budget := -1; budget <= enough && ends < 100; budget++ {
			m := wire.New(budget)
			v, e := capread.Read(s, b, m)
			switch {
			case e == api.ErrBudget && ends == 0 && budget < enough:
				if v != nil || m.Left() != 0 || !m.Out() {
					t.Errorf("%s, budget %d: %v beside ErrBudget, %d left", what, budget, v, m.Left())
				}
			case e == x.want && (e == api.OK) == (v != nil) && !m.Out():
				ends++
			default:
				t.Fatalf("%s, budget %d: error %d, %v", what, budget, e, v)
			}
		}
		if ends < 100 {
			t.Errorf("%s: it wants more than is enough", what)
		}
	}
}

// P3, P8: of the longest messages, too, what is enough is enough, whichever schema and request it is reckoned of.
func TestEnoughOfTheLongest(t *testing.T) {
	const most = api.MaxInput/8 - 1
	fields := "x: E;"
	for i := range api.MaxFields - 1 {
		fields += "y" + string(rune('a'+i)) + ": text;"
	}
	for what, x := range map[string]struct {
		field string
		words []uint64 // behind the root's pointer
		count int
	}{
		"bits":                     {"list<bool>", []uint64{ofList(0, 1, 64*(most-2))}, 64 * (most - 2)},
		"enums":                    {"list<E>", []uint64{ofList(0, 3, 4*(most-2))}, 4 * (most - 2)},
		"structs of nothing":       {"list<T>", []uint64{ofList(0, 7, 0), tag(most-2, 0, 0)}, most - 2},
		"structs of many pointers": {"list<T>", []uint64{ofList(0, 7, (most-4)/16*16), tag((most-4)/16, 1, 15)}, (most - 4) / 16},
		"null":                     {"list<text>", []uint64{ofList(0, 6, most-2)}, most - 2},
		"a text":                   {"text", []uint64{ofList(0, 2, 8*(most-2))}, 0},
	} {
		s := read(t, "enum E { a } struct T { "+fields+" } struct S { l: "+x.field+"; } root S;")
		words := append([]uint64{ofStruct(0, 0, 1)}, append(x.words, make([]uint64, most-1-len(x.words))...)...)
		b := message(words...)
		v, e := capread.Read(s, b, wire.New(1000+100*(len(b)+8)*8))
		switch {
		case e != api.OK || len(b) != api.MaxInput:
			t.Errorf("%s: error %d", what, e)
		case x.count > 0 && v.List(0).Len() != x.count:
			t.Errorf("%s: %d", what, v.List(0).Len())
		case x.count == 0 && len(v.Bytes(0)) != 8*(most-2)-1:
			t.Errorf("%s: %d bytes", what, len(v.Bytes(0)))
		}
	}
}
