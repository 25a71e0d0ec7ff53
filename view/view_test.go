package view_test

import (
	"math"
	"reflect"
	"slices"
	"testing"

	"transom/api"
	"transom/schema"
	"transom/view"
)

// read: a text's schema.
func read(t *testing.T, text string) api.Schema {
	t.Helper()
	s, fault := schema.Read(text)
	if fault != (api.Fault{}) {
		t.Fatalf("%s: %v", text, fault)
	}
	return s
}

// allSorts: a field of each kind, with defaults, and lists; S is the whole.
const allSorts = `
	enum E { a, b, c }
	struct T { x: u8 = 9; }
	struct S {
		b: bool = true; i8: i8 = -1; i16: i16 = -2; i32: i32 = -3; i64: i64 = -4;
		u8: u8 = 5; u16: u16 = 6; u32: u32 = 7; u64: u64; e: E = c; t: text; d: data; s: T;
		n: list<i16>; ss: list<T>; tt: list<list<list<text>>>;
	}
	root S;
`

// Values are written by these.
func num(n int) api.Val               { return api.Val{Num: uint64(n)} }
func raw(text string) api.Val         { return api.Val{Bytes: []byte(text)} }
func many(kids ...api.Val) api.Val    { return api.Val{Kids: kids} }
func there(fields ...api.Val) api.Val { return api.Val{Has: true, Kids: fields} }

// full: a value of S, of which no field is its default.
func full() api.Val {
	return there(
		num(0), num(-128), num(-32768), num(math.MinInt32), num(math.MinInt64),
		num(255), num(65535), num(math.MaxUint32), num(-1), num(1), raw("aé"), raw("\xff\x00"), there(num(8)),
		many(num(3), num(-3)), many(there(num(1)), there(num(2))), many(many(many(raw("x"), raw("")), many()), many()),
	)
}

// bareOf: the value with nil for what is empty.
func bareOf(v api.Val) api.Val {
	out := api.Val{Num: v.Num, Has: v.Has, Bytes: append([]byte(nil), v.Bytes...)}
	for _, kid := range v.Kids {
		out.Kids = append(out.Kids, bareOf(kid))
	}
	return out
}

// same: are they one value?
func same(a, b api.Val) bool { return reflect.DeepEqual(bareOf(a), bareOf(b)) }

// P7.1
func TestOfTellsFields(t *testing.T) {
	v := view.Of(full())
	for f, want := range []int{0, -128, -32768, math.MinInt32, math.MinInt64, 255, 65535, math.MaxUint32, -1, 1} {
		if got := v.Num(f); got != uint64(want) {
			t.Errorf("field %d: %x, not %x", f, got, uint64(want))
		}
	}
	if string(v.Bytes(10)) != "aé" || string(v.Bytes(11)) != "\xff\x00" {
		t.Errorf("bytes: %q %q", v.Bytes(10), v.Bytes(11))
	}
	if sub, ok := v.Sub(12); !ok || sub.Num(0) != 8 {
		t.Errorf("a struct: %v, %v", sub, ok)
	}
	d := view.Of(view.Default(read(t, allSorts).Structs[1]))
	if sub, ok := d.Sub(12); ok || sub != nil {
		t.Errorf("a struct that isn't there: %v, %v", sub, ok)
	}
	for f := 13; f <= 15; f++ {
		if d.List(f).Len() != 0 {
			t.Errorf("field %d: not empty", f)
		}
	}
	if len(d.Bytes(10)) != 0 || len(d.Bytes(11)) != 0 {
		t.Errorf("empty bytes: %q %q", d.Bytes(10), d.Bytes(11))
	}
}

// P7.1
func TestOfTellsElements(t *testing.T) {
	v := view.Of(full())
	if l := v.List(13); l.Len() != 2 || l.Num(0) != 3 || l.Num(1) != 1<<64-3 {
		t.Errorf("numbers: %v", l)
	}
	if l := v.List(14); l.Len() != 2 || l.Sub(0).Num(0) != 1 || l.Sub(1).Num(0) != 2 {
		t.Errorf("structs: %v", l)
	}
	l := v.List(15)
	if l.Len() != 2 || l.List(0).Len() != 2 || l.List(1).Len() != 0 {
		t.Fatalf("lists: %v", l)
	}
	if l.List(0).List(1).Len() != 0 {
		t.Errorf("a list in a list that is empty: %v", l.List(0))
	}
	texts := l.List(0).List(0)
	if texts.Len() != 2 || string(texts.Bytes(0)) != "x" || len(texts.Bytes(1)) != 0 {
		t.Errorf("texts: %v", texts)
	}
}

// P7.1: a struct's struct and a list's struct are whole views.
func TestOfTellsStructsInStructs(t *testing.T) {
	inner := there(raw("deep"), many(num(4)), api.Val{})
	v := view.Of(there(there(inner), many(inner, inner)))
	one, _ := v.Sub(0)
	two, ok := one.Sub(0)
	for i, x := range []view.View{two, v.List(1).Sub(0), v.List(1).Sub(1)} {
		if !ok || string(x.Bytes(0)) != "deep" || x.List(1).Num(0) != 4 {
			t.Errorf("%d: %v", i, x)
		}
		if sub, ok := x.Sub(2); ok || sub != nil {
			t.Errorf("%d: %v, %v", i, sub, ok)
		}
	}
}

// P7.1
func TestDefault(t *testing.T) {
	s := read(t, allSorts)
	want := there(num(1), num(-1), num(-2), num(-3), num(-4), num(5), num(6), num(7), num(0), num(2), api.Val{}, api.Val{}, api.Val{}, api.Val{}, api.Val{}, api.Val{})
	if got := view.Default(s.Structs[1]); !same(got, want) {
		t.Errorf("%v, not %v", got, want)
	}
	if got := view.Default(s.Structs[0]); !same(got, there(num(9))) {
		t.Errorf("of one field: %v", got)
	}
	if got := view.Default(api.Record{}); !got.Has || len(got.Kids) != 0 {
		t.Errorf("of no fields: %v", got)
	}
	for _, y := range []api.Type{{Kind: api.Text}, {Kind: api.Data}, {Kind: api.Struct}, {Kind: api.U8, Lists: 1}} {
		r := api.Record{Fields: []api.Field{{Name: "x", Type: y, Def: 5}}}
		if got := view.Default(r); !same(got, there(api.Val{})) {
			t.Errorf("of what is no number: %v", got)
		}
	}
	for rec := range s.Structs {
		if !view.Fits(s, rec, view.Default(s.Structs[rec])) {
			t.Errorf("struct %d: its Default doesn't fit", rec)
		}
	}
}

// P7.2: each field's default and another value.
func TestEmpty(t *testing.T) {
	s := read(t, allSorts)
	fields := s.Structs[1].Fields
	none, all := view.Default(s.Structs[1]), full()
	for i, f := range fields {
		if !view.Empty(f, view.Of(none), i) {
			t.Errorf("%s: its default isn't", f.Name)
		}
		if view.Empty(f, view.Of(all), i) {
			t.Errorf("%s: another value is its default", f.Name)
		}
	}
}

// P7.2: what is nearly the default.
func TestEmptyAtTheEdges(t *testing.T) {
	s := read(t, allSorts)
	fields := s.Structs[1].Fields
	for _, x := range []struct {
		what  string
		place int
		v     api.Val
		want  bool
	}{
		{"0, where another is meant", 5, num(0), false},
		{"the default", 5, num(5), true},
		{"0 of false as a default that is true", 0, num(0), false},
		{"-4 in 64 bits", 4, num(-4), true},
		{"4", 4, num(4), false},
		{"0 where nothing is written", 8, num(0), true},
		{"the first of an enum whose default is the last", 9, num(0), false},
		{"the last", 9, num(2), true},
		{"no bytes", 10, api.Val{Bytes: []byte{}}, true},
		{"a byte 0", 10, raw("\x00"), false},
		{"data of a byte 0", 11, raw("\x00"), false},
		{"a struct of nothing but defaults", 12, there(num(9)), false},
		{"a list without elements", 13, api.Val{Kids: []api.Val{}}, true},
		{"a list of 0", 13, many(num(0)), false},
		{"a list of a struct of defaults", 14, many(there(num(9))), false},
		{"a list of an empty list", 15, many(many()), false},
	} {
		v := full()
		v.Kids[x.place] = x.v
		if got := view.Empty(fields[x.place], view.Of(v), x.place); got != x.want {
			t.Errorf("%s: Empty %v", x.what, got)
		}
	}
}

// P7.2: a field is told by the place that is asked for, whatever it is called.
func TestEmptyAsksOnePlace(t *testing.T) {
	f := api.Field{Name: "x", Type: api.Type{Kind: api.U8}, Def: 3}
	v := view.Of(there(num(3), num(4), num(3)))
	for i, want := range []bool{true, false, true} {
		if got := view.Empty(f, v, i); got != want {
			t.Errorf("place %d: %v", i, got)
		}
	}
}

// P7.3
func TestTreeIsWhatItWas(t *testing.T) {
	s := read(t, allSorts)
	for _, v := range []api.Val{full(), view.Default(s.Structs[1])} {
		if !view.Fits(s, 1, v) {
			t.Fatalf("doesn't fit: %v", v)
		}
		if got := view.Tree(s, 1, view.Of(v)); !same(got, v) {
			t.Errorf("%v, not %v", got, v)
		}
	}
	if got := view.Tree(s, 0, view.Of(there(num(77)))); !same(got, there(num(77))) {
		t.Errorf("of another struct than the root: %v", got)
	}
}

// R6: what is handed in stays as it is, spare room included, and what is answered is new.
func TestAnswersAreNew(t *testing.T) {
	s := read(t, `struct S { t: text; l: list<data>; s: S; } root S;`)
	room := []byte("ab spare")
	kids := []api.Val{{Bytes: room[:2]}, many(raw("cd")), {}, num(1), num(2)}
	v := api.Val{Has: true, Kids: kids[:3]}
	was := bareOf(api.Val{Kids: kids})
	x := view.Of(v)
	trees := []api.Val{view.Tree(s, 0, x), view.Tree(s, 0, x)}
	answers := [][]byte{x.Bytes(0), x.Bytes(0), x.List(1).Bytes(0), trees[0].Kids[0].Bytes, trees[0].Kids[1].Kids[0].Bytes}
	for _, b := range answers {
		all := b[:cap(b)]
		for i := range all {
			all[i] = '!'
		}
	}
	for _, l := range [][]api.Val{trees[0].Kids[1].Kids, trees[0].Kids} {
		all := l[:cap(l)]
		for i := range all {
			all[i] = num(9)
		}
	}
	if !view.Fits(s, 0, v) || view.Empty(s.Structs[0].Fields[0], x, 0) {
		t.Errorf("another value: %v", v)
	}
	if string(room) != "ab spare" || !reflect.DeepEqual(bareOf(api.Val{Kids: kids}), was) {
		t.Errorf("handed in, and changed: %q %v", room, kids)
	}
	if !same(trees[1], v) || string(x.Bytes(0)) != "ab" {
		t.Errorf("answers share memory: %v", trees[1])
	}
	d := []api.Val{view.Default(s.Structs[0]), view.Default(s.Structs[0])}
	d[0].Kids[0] = num(5)
	if !same(d[1], there(api.Val{}, api.Val{}, api.Val{})) {
		t.Errorf("two defaults share memory: %v", d[1])
	}
}

// P1: places of no struct, nothing, and values that lead back into themselves.
func TestWhatIsNoView(t *testing.T) {
	s := read(t, `struct S { s: S; l: list<S>; } root S;`)
	for _, rec := range []int{math.MinInt, -1, 1, 2, math.MaxInt} {
		if got := view.Tree(s, rec, view.Of(there(api.Val{}, api.Val{}))); !reflect.DeepEqual(got, api.Val{}) {
			t.Errorf("struct %d: Tree %v", rec, got)
		}
	}
	if got := view.Tree(s, 0, nil); !reflect.DeepEqual(got, api.Val{}) {
		t.Errorf("of nothing: Tree %v", got)
	}
	view.Empty(s.Structs[0].Fields[0], nil, 0)
	for at := range 2 {
		kids := make([]api.Val, 2)
		kids[at] = api.Val{Has: at == 0, Kids: kids}
		if at == 1 {
			kids[at].Kids = []api.Val{{Has: true, Kids: kids}}
		}
		ring := api.Val{Has: true, Kids: kids}
		if view.Fits(s, 0, ring) {
			t.Errorf("field %d: what leads back into itself fits", at)
		}
		view.Tree(s, 0, view.Of(ring))
	}
}

// P1: questions of which nothing is promised have some answer.
func TestOtherQuestions(t *testing.T) {
	for _, v := range []api.Val{{}, full(), there()} {
		x := view.Of(v)
		for _, i := range []int{math.MinInt, -1, 0, 10, 12, 13, 14, 15, 16, math.MaxInt} {
			x.Num(i)
			x.Bytes(i)
			x.Sub(i)
			l := x.List(i)
			for _, k := range []int{math.MinInt, -1, 0, l.Len(), math.MaxInt} {
				l.Num(k)
				l.Bytes(k)
				l.List(k).Len()
				l.Sub(k).Num(0)
			}
		}
	}
}

// R8: what is asked again is answered again.
func TestAskedAgain(t *testing.T) {
	s := read(t, allSorts)
	x := view.Of(full())
	once := view.Tree(s, 1, x)
	for range 3 {
		if !same(view.Tree(s, 1, x), once) || !slices.Equal(x.Bytes(10), x.Bytes(10)) || x.List(13).Len() != 2 {
			t.Error("another answer")
		}
	}
}
