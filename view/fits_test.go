package view_test

import (
	"math"
	"strings"
	"testing"

	"transom/api"
	"transom/view"
)

// places of the fields of S, by sort.
const (
	anEnum                 = 9 // those ahead of it are numbers too
	aText, aData, aSub     = 10, 11, 12
	ints, structs, nesting = 13, 14, 15
)

// P7.2: the whole.
func TestFitsOfTheWhole(t *testing.T) {
	s := read(t, allSorts)
	if !view.Fits(s, 1, full()) || !view.Fits(s, 0, there(num(1))) {
		t.Error("what fits doesn't")
	}
	for _, rec := range []int{math.MinInt, -1, 2, 3, 16, math.MaxInt} {
		if view.Fits(s, rec, full()) || view.Fits(s, rec, there(num(1))) || view.Fits(s, rec, api.Val{}) || view.Fits(s, rec, there()) {
			t.Errorf("of struct %d, which is none, something fits", rec)
		}
	}
	if view.Fits(s, 0, full()) || view.Fits(s, 1, there(num(1))) {
		t.Error("another struct's value fits")
	}
	for what, change := range map[string]func(v *api.Val){
		"not there":            func(v *api.Val) { v.Has = false },
		"not there, no fields": func(v *api.Val) { *v = api.Val{} },
		"no fields":            func(v *api.Val) { v.Kids = nil },
		"a field less":         func(v *api.Val) { v.Kids = v.Kids[:15] },
		"a field more":         func(v *api.Val) { v.Kids = append(v.Kids, api.Val{}) },
		"a number":             func(v *api.Val) { v.Num = 1 },
		"bytes":                func(v *api.Val) { v.Bytes = []byte("a") },
	} {
		v := full()
		if change(&v); view.Fits(s, 1, v) {
			t.Errorf("%s: fits", what)
		}
	}
	v := full()
	if v.Bytes = []byte{}; !view.Fits(s, 1, v) {
		t.Error("bytes that are empty: doesn't fit")
	}
}

// wantField checks whether S fits with that value in one field.
func wantField(t *testing.T, s api.Schema, want bool, place int, v api.Val) {
	t.Helper()
	whole := full()
	whole.Kids[place] = v
	if got := view.Fits(s, 1, whole); got != want {
		t.Errorf("field %d, %v: Fits %v", place, v, got)
	}
}

// P7.2: numbers, at the bounds of each kind.
func TestFitsOfNumbers(t *testing.T) {
	s := read(t, allSorts)
	for place, x := range []struct{ ok, not []int }{
		{[]int{0, 1}, []int{2, -1}},
		{[]int{-128, 0, 127}, []int{-129, 128, 255}},
		{[]int{-32768, 32767}, []int{-32769, 32768, 65535}},
		{[]int{math.MinInt32, math.MaxInt32}, []int{math.MinInt32 - 1, math.MaxInt32 + 1, math.MaxUint32}},
		{[]int{math.MinInt64, 0, math.MaxInt64}, nil},
		{[]int{0, 255}, []int{-1, 256}},
		{[]int{0, 65535}, []int{-1, 65536}},
		{[]int{0, math.MaxUint32}, []int{-1, math.MaxUint32 + 1}},
		{[]int{0, math.MaxInt64, -1}, nil},
		{[]int{0, 2}, []int{3, 255, -1}},
	} {
		for _, n := range x.ok {
			wantField(t, s, true, place, num(n))
		}
		for _, n := range x.not {
			wantField(t, s, false, place, num(n))
		}
	}
}

// P7.2: of each value just what its type has is set.
func TestFitsOfWhatIsSet(t *testing.T) {
	s := read(t, allSorts)
	extras := map[string]func(v *api.Val){
		"number": func(v *api.Val) { v.Num = 1 },
		"bytes":  func(v *api.Val) { v.Bytes = []byte("a") },
		"kids":   func(v *api.Val) { v.Kids = many(there(num(1))).Kids },
		"has":    func(v *api.Val) { v.Has = true },
	}
	for place := range full().Kids {
		for what, set := range extras {
			v := full().Kids[place]
			set(&v)
			is := place <= anEnum && what == "number" ||
				(place == aText || place == aData) && what == "bytes" ||
				place == aSub && what == "has" ||
				place == structs && what == "kids"
			wantField(t, s, is, place, v)
		}
	}
	for place, v := range full().Kids {
		v.Bytes = append([]byte{}, v.Bytes...) // empty ones are as nil
		v.Kids = append([]api.Val{}, v.Kids...)
		wantField(t, s, true, place, v)
	}
}

// P7.2: structs in fields, there or not.
func TestFitsOfStructsInFields(t *testing.T) {
	s := read(t, allSorts)
	wantField(t, s, true, aSub, api.Val{})
	wantField(t, s, true, aSub, api.Val{Bytes: []byte{}, Kids: []api.Val{}})
	wantField(t, s, false, aSub, many(num(1)))
	wantField(t, s, false, aSub, api.Val{Num: 1})
	wantField(t, s, false, aSub, raw("a"))
	wantField(t, s, true, aSub, there(num(255)))
	wantField(t, s, false, aSub, there(num(256)))
	wantField(t, s, false, aSub, there())
	wantField(t, s, false, aSub, there(num(1), num(1)))
	wantField(t, s, false, aSub, api.Val{Has: true, Num: 1, Kids: []api.Val{num(1)}})
	wantField(t, s, false, aSub, there(there(num(1))))
}

// P7.2: elements are values of their type, and structs among them there.
func TestFitsOfElements(t *testing.T) {
	s := read(t, allSorts)
	wantField(t, s, true, ints, many())
	wantField(t, s, true, ints, many(num(0), num(32767), num(-32768)))
	wantField(t, s, false, ints, many(num(0), num(32768)))
	wantField(t, s, false, ints, many(num(-32769), num(0)))
	wantField(t, s, false, ints, many(raw("a")))
	wantField(t, s, false, ints, many(there()))
	wantField(t, s, false, ints, many(many(num(1))))
	wantField(t, s, true, structs, many(there(num(1)), there(num(0))))
	wantField(t, s, false, structs, many(api.Val{}))
	wantField(t, s, false, structs, many(there(num(1)), api.Val{}, there(num(1))))
	wantField(t, s, false, structs, many(there(num(1)), api.Val{Kids: []api.Val{num(1)}}))
	wantField(t, s, false, structs, many(there(num(1), num(2))))
	wantField(t, s, false, structs, many(num(1)))
	wantField(t, s, true, nesting, many(many(), many(many(), many(raw("é"), api.Val{}))))
	wantField(t, s, false, nesting, many(raw("a")))
	wantField(t, s, false, nesting, many(many(raw("a"))))
	wantField(t, s, false, nesting, many(many(many(num(1)))))
	wantField(t, s, false, nesting, many(many(many(many(raw("a"))))))
	wantField(t, s, false, nesting, many(many(many(raw("\xff")))))
	wantField(t, s, true, ints, api.Val{Kids: make([]api.Val, 100000)})
}

// P7.2: a text is UTF-8, data are any bytes.
func TestFitsOfBytes(t *testing.T) {
	s := read(t, allSorts)
	for _, x := range []struct {
		bytes string
		text  bool
	}{
		{"", true}, {"a", true}, {"\x00", true}, {"é€😀", true}, {"\xed\x9f\xbf\xee\x80\x80\xf4\x8f\xbf\xbf", true}, {strings.Repeat("é", 50000), true},
		{"\xff", false}, {"a\xc3", false}, {"\x80", false}, {"\xc0\x80", false}, {"\xed\xa0\x80", false}, {"\xf4\x90\x80\x80", false}, {strings.Repeat("a", 50000) + "\xe2\x82", false},
	} {
		wantField(t, s, x.text, aText, raw(x.bytes))
		wantField(t, s, true, aData, raw(x.bytes))
		wantField(t, s, x.text, nesting, many(many(many(raw(x.bytes)))))
	}
}

// chain: a struct so deep, of struct C { s: C; l: list<C>; n: list<list<list<u8>>>; t: text; }: each stands in a field or, where by tells so, in a list; in the last one stands last.
func chain(deep int, by func(i int) bool, last api.Val) api.Val {
	v := last
	for i := deep; i > 1; i-- {
		if by(i) {
			v = there(api.Val{}, many(v), many(), api.Val{})
		} else {
			v = there(v, many(), many(), api.Val{})
		}
	}
	return v
}

func never(int) bool    { return false }
func always(int) bool   { return true }
func odd(i int) bool    { return i%2 == 1 }
func bottom(i int) bool { return i == 6 }

// P7.2: no deeper than MaxNest: the whole is 1 deep, a struct and a list that isn't empty one more each.
func TestFitsOfDepths(t *testing.T) {
	s := read(t, `struct C { s: C; l: list<C>; n: list<list<list<u8>>>; t: text; } root C;`)
	end := func(n api.Val) api.Val { return there(api.Val{}, many(), n, raw("a")) }
	for _, x := range []struct {
		what    string
		structs int
		by      func(i int) bool
		last    api.Val
		deep    int
	}{
		{"one struct", 1, never, end(many()), 1},
		{"structs", 12, never, end(many()), 12},
		{"structs", 13, never, end(many()), 13},
		{"structs", 14, never, end(many()), 14},
		{"structs in lists", 6, always, end(many()), 11},
		{"structs in lists", 7, always, end(many()), 13},
		{"a list among structs", 11, bottom, end(many()), 12},
		{"a list among structs", 12, bottom, end(many()), 13},
		{"lists now and then", 8, odd, end(many()), 11},
		{"lists now and then", 9, odd, end(many()), 13},
		{"an empty list in a list", 11, never, end(many(many(), many())), 12},
		{"an empty list in a list", 12, never, end(many(many())), 13},
		{"an empty list in lists", 10, never, end(many(many(many()))), 12},
		{"an empty list in lists", 11, never, end(many(many(many()))), 13},
		{"numbers in lists", 9, never, end(many(many(many(num(1))))), 12},
		{"numbers in lists", 10, never, end(many(many(many(num(1))))), 13},
		{"the last of many elements", 10, never, end(many(many(), many(), many(many(num(1))))), 13},
		{"structs and numbers in lists", 5, always, end(many(many(many(num(1))))), 12},
		{"structs and numbers in lists", 6, always, end(many(many(many(num(1))))), 14},
		{"far too many", 100000, never, end(many()), 100000},
	} {
		v := chain(x.structs, x.by, x.last)
		if got := view.Fits(s, 0, v); got != (x.deep <= 12) {
			t.Errorf("%d, %s: %d deep: Fits %v", x.structs, x.what, x.deep, got)
		}
		if got := view.Tree(s, 0, view.Of(v)); x.deep <= 12 && !same(got, v) {
			t.Errorf("%d, %s: another Tree", x.structs, x.what)
		}
	}
}

// P7.2: the depth of one field doesn't take from that of another.
func TestFitsOfDeepFieldsBesideEachOther(t *testing.T) {
	s := read(t, `struct C { s: C; t: C; l: list<C>; } root C;`)
	deep := there(api.Val{}, api.Val{}, many())
	for range 9 {
		deep = there(deep, api.Val{}, many())
	}
	if v := there(deep, deep, many(deep, deep)); !view.Fits(s, 0, v) || !same(view.Tree(s, 0, view.Of(v)), v) {
		t.Error("12 deep in each field: doesn't fit")
	}
	if v := there(deep, deep, many(deep, there(deep, api.Val{}, many()))); view.Fits(s, 0, v) {
		t.Error("13 deep in the last element: fits")
	}
}

// P1: of what is no schema, calls end.
func TestFitsOfNoSchema(t *testing.T) {
	for kind := range 256 {
		for _, lists := range []int{math.MinInt, -1, 0, 1, 4, math.MaxInt} {
			for _, ref := range []int{math.MinInt, -1, 0, 1, 2, math.MaxInt} {
				f := api.Field{Name: "x", Type: api.Type{Kind: api.Kind(kind), Ref: ref, Lists: lists}, Def: 7}
				s := api.Schema{Structs: []api.Record{{Name: "S", Fields: []api.Field{f}}, {Name: "T"}}, Root: -1}
				for _, kid := range []api.Val{{}, num(1), raw("a"), there(), many(api.Val{}), many(many(many(many(num(1)))))} {
					v := there(kid)
					view.Fits(s, 0, v)
					view.Tree(s, 0, view.Of(v))
					view.Empty(f, view.Of(v), 0)
				}
				view.Default(s.Structs[0])
			}
		}
	}
	if view.Fits(api.Schema{}, 0, there()) || view.Fits(api.Schema{}, 0, api.Val{}) {
		t.Error("a value of no schema")
	}
}
