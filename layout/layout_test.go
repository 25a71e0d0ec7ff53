package layout_test

import (
	"math"
	"reflect"
	"slices"
	"strconv"
	"strings"
	"testing"

	"transom/api"
	"transom/layout"
	"transom/schema"
)

// record: a schema's struct with these types, in a text's words.
func record(t *testing.T, types ...string) api.Record {
	t.Helper()
	b := &strings.Builder{}
	b.WriteString("enum E { a, b } struct T { x: u8; } struct S { ")
	for i, x := range types {
		b.WriteString("x" + strconv.Itoa(i) + ": " + x + "; ")
	}
	b.WriteString("} root S;")
	s, fault := schema.Read(b.String())
	if fault != (api.Fault{}) {
		t.Fatalf("%v: %v", types, fault)
	}
	return s.Structs[1]
}

// words: a text's words.
func words(text string) []string { return strings.Fields(text) }

// times: a word, so many times.
func times(n int, word string) []string { return slices.Repeat([]string{word}, n) }

// all: so many that are there.
func all(n int) []bool { return slices.Repeat([]bool{true}, n) }

// ints: numbers at even distances.
func ints(first, step, count int) []int {
	l := make([]int, count)
	for i := range l {
		l[i] = first + i*step
	}
	return l
}

// sizes: of the kinds' numbers, in bits in words and in bytes elsewhere.
var sizes = map[api.Kind]struct{ bits, bytes int }{
	api.Bool: {1, 1}, api.Enum: {16, 1},
	api.I8: {8, 1}, api.I16: {16, 2}, api.I32: {32, 4}, api.I64: {64, 8},
	api.U8: {8, 1}, api.U16: {16, 2}, api.U32: {32, 4}, api.U64: {64, 8},
}

// P6.1
func TestBitsOfAllKinds(t *testing.T) {
	for k := range 256 {
		if got, want := layout.Bits(api.Kind(k)), sizes[api.Kind(k)].bits; got != want {
			t.Errorf("kind %d: Bits %d, not %d", k, got, want)
		}
	}
}

// P6.1
func TestWords(t *testing.T) {
	for _, x := range []struct {
		types []string
		want  layout.Packed
	}{
		{words("bool u32 text u8"), layout.Packed{Words: 1, Ptrs: 1, At: []int{40, 0, 0, 32}}},
		{words("bool"), layout.Packed{Words: 1, At: []int{0}}},
		{words("u64"), layout.Packed{Words: 1, At: []int{0}}},
		{words("text"), layout.Packed{Ptrs: 1, At: []int{0}}},
		{words("bool u8 u16 u32 u64"), layout.Packed{Words: 2, At: []int{120, 112, 96, 64, 0}}},
		{words("bool i8 i16 i32 i64"), layout.Packed{Words: 2, At: []int{120, 112, 96, 64, 0}}},
		{words("u64 u32 u16 u8 bool"), layout.Packed{Words: 2, At: []int{0, 64, 96, 112, 120}}},
		// Of like widths in their order, with a sign or without; an enum is as wide as 16 bits.
		{words("u8 i8 u8 bool i8 bool"), layout.Packed{Words: 1, At: []int{0, 8, 16, 32, 24, 33}}},
		{words("E i16 E u8 u16 E"), layout.Packed{Words: 2, At: []int{0, 16, 32, 80, 48, 64}}},
		{words("i64 u8 u64 i64"), layout.Packed{Words: 4, At: []int{0, 192, 64, 128}}},
		// Just full, and one bit more.
		{words("u32 u32"), layout.Packed{Words: 1, At: []int{0, 32}}},
		{words("bool u32 u32"), layout.Packed{Words: 2, At: []int{64, 0, 32}}},
		{words("E E E E"), layout.Packed{Words: 1, At: []int{0, 16, 32, 48}}},
		{words("E E E E E"), layout.Packed{Words: 2, At: []int{0, 16, 32, 48, 64}}},
		// What is no number is a pointer: lists of numbers too.
		{words("text data T list<u8> list<list<bool>> list<T> list<E> list<list<list<u64>>>"), layout.Packed{Ptrs: 8, At: ints(0, 1, 8)}},
		{words("text u8 list<u64> bool T u64 data"), layout.Packed{Words: 2, Ptrs: 4, At: []int{0, 64, 1, 72, 2, 0, 3}}},
		// As many fields as there may be.
		{times(16, "bool"), layout.Packed{Words: 1, At: ints(0, 1, 16)}},
		{times(16, "E"), layout.Packed{Words: 4, At: ints(0, 16, 16)}},
		{times(16, "i64"), layout.Packed{Words: 16, At: ints(0, 64, 16)}},
		{times(16, "T"), layout.Packed{Ptrs: 16, At: ints(0, 1, 16)}},
	} {
		if got := layout.Words(record(t, x.types...)); !reflect.DeepEqual(got, x.want) {
			t.Errorf("%v: %v, not %v", x.types, got, x.want)
		}
	}
}

// P6.2
func TestInlineOfAllTypes(t *testing.T) {
	for k := range 256 {
		for lists := range 4 {
			want := 4
			if x, ok := sizes[api.Kind(k)]; ok && lists == 0 {
				want = x.bytes
			}
			if got := layout.Inline(api.Field{Name: "x", Type: api.Type{Kind: api.Kind(k), Lists: lists}, Def: 1}); got != want {
				t.Errorf("kind %d in %d lists: Inline %d, not %d", k, lists, got, want)
			}
		}
	}
}

// P6.2
func TestTabled(t *testing.T) {
	const y, n = true, false
	for _, x := range []struct {
		types []string
		there []bool
		want  layout.Table
	}{
		{words("bool u32 text u8"), []bool{y, y, y, y}, layout.Table{At: []int{12, 4, 8, 13}, Size: 14, Align: 4}},
		{words("bool u32 text u8"), []bool{y, n, n, n}, layout.Table{At: []int{4, 0, 0, 0}, Size: 5, Align: 4}},
		{words("bool u32 text u8"), []bool{y, n, y, y}, layout.Table{At: []int{8, 0, 4, 9}, Size: 10, Align: 4}},
		{words("bool u32 text u8"), []bool{n, n, n, n}, layout.Table{At: []int{0, 0, 0, 0}, Size: 4, Align: 4}},
		// 4 bytes stand free behind the first 4 where there is one of 8; nothing stands in them.
		{words("u64"), []bool{y}, layout.Table{At: []int{8}, Size: 16, Align: 8}},
		{words("u8 i32 i64 T E u64"), all(6), layout.Table{At: []int{32, 24, 8, 28, 33, 16}, Size: 34, Align: 8}},
		{words("u8 i32 i64 T E u64"), []bool{y, y, n, y, y, y}, layout.Table{At: []int{24, 16, 0, 20, 25, 8}, Size: 26, Align: 8}},
		{words("u8 i32 i64 T E u64"), []bool{y, y, n, y, y, n}, layout.Table{At: []int{12, 4, 0, 8, 13, 0}, Size: 14, Align: 4}},
		// Align is 4 of lesser ones, too.
		{words("u8"), []bool{y}, layout.Table{At: []int{4}, Size: 5, Align: 4}},
		{words("u16"), []bool{y}, layout.Table{At: []int{4}, Size: 6, Align: 4}},
		{words("u8 u16"), []bool{y, y}, layout.Table{At: []int{6, 4}, Size: 7, Align: 4}},
		// Of like ones in their order; an enum is 1 byte, and what is no number 4.
		{words("E bool i8 u8"), all(4), layout.Table{At: []int{4, 5, 6, 7}, Size: 8, Align: 4}},
		{words("i16 bool u16 E i16"), all(5), layout.Table{At: []int{4, 10, 6, 11, 8}, Size: 12, Align: 4}},
		{words("list<u8> i32 list<u64> u32 data T list<list<T>>"), all(7), layout.Table{At: ints(4, 4, 7), Size: 32, Align: 4}},
		// As many fields as there may be.
		{times(16, "i64"), all(16), layout.Table{At: ints(8, 8, 16), Size: 136, Align: 8}},
		{times(16, "bool"), all(16), layout.Table{At: ints(4, 1, 16), Size: 20, Align: 4}},
	} {
		if got := layout.Tabled(record(t, x.types...), x.there); !reflect.DeepEqual(got, x.want) {
			t.Errorf("%v %v: %v, not %v", x.types, x.there, got, x.want)
		}
	}
}

// P6.2, P1: fields whose place isn't in there aren't; places beyond the fields are nobody's.
func TestTabledOfOtherLengths(t *testing.T) {
	r := record(t, words("u8 u32 u64")...)
	for _, x := range []struct {
		there []bool
		want  layout.Table
	}{
		{nil, layout.Table{At: []int{0, 0, 0}, Size: 4, Align: 4}},
		{[]bool{}, layout.Table{At: []int{0, 0, 0}, Size: 4, Align: 4}},
		{[]bool{true}, layout.Table{At: []int{4, 0, 0}, Size: 5, Align: 4}},
		{[]bool{true, true}, layout.Table{At: []int{8, 4, 0}, Size: 9, Align: 4}},
		{[]bool{true, true, true, true}, layout.Table{At: []int{20, 16, 8}, Size: 21, Align: 8}},
		{[]bool{false, true, false, true, true}, layout.Table{At: []int{0, 4, 0}, Size: 8, Align: 4}},
		{all(1000), layout.Table{At: []int{20, 16, 8}, Size: 21, Align: 8}},
	} {
		if got := layout.Tabled(r, x.there); !reflect.DeepEqual(got, x.want) {
			t.Errorf("%d there: %v, not %v", len(x.there), got, x.want)
		}
	}
}

// wantRowed checks what Rowed says; no groups and no bytes may be nil or empty.
func wantRowed(t *testing.T, types []string, size int, at, groups, bytes []int) {
	t.Helper()
	got := layout.Rowed(record(t, types...))
	if got.Size != size || !slices.Equal(got.At, at) || !slices.Equal(got.Groups, groups) || !slices.Equal(got.Bytes, bytes) {
		t.Errorf("%v: %v, not %d %v %v %v", types, got, size, at, groups, bytes)
	}
}

// P6.3
func TestRowed(t *testing.T) {
	wantRowed(t, words("bool u32 text u8"), 6, []int{0, 1, 0, 5}, nil, []int{2})
	wantRowed(t, words("bool i8 u8 E"), 4, []int{0, 1, 2, 3}, nil, nil)
	wantRowed(t, words("u8 i64 u16 u32 i16 i32 u64 bool"), 30, []int{0, 1, 9, 11, 15, 17, 21, 29}, nil, nil) // no gaps, no other order
	wantRowed(t, words("text data"), 0, []int{0, 0}, nil, []int{0, 1})
	wantRowed(t, words("T list<u8>"), 0, []int{0, 0}, []int{0, 1}, nil)
	wantRowed(t, words("data u16 list<text> T text list<list<data>> u8 list<T> list<E>"), 3, []int{0, 0, 0, 0, 0, 0, 2, 0, 0}, []int{2, 3, 5, 7, 8}, []int{0, 4})
	wantRowed(t, times(16, "u64"), 128, ints(0, 8, 16), nil, nil)
	wantRowed(t, times(16, "E"), 16, ints(0, 1, 16), nil, nil)
	wantRowed(t, times(16, "text"), 0, ints(0, 0, 16), nil, ints(0, 1, 16))
	wantRowed(t, times(16, "list<bool>"), 0, ints(0, 0, 16), ints(0, 1, 16), nil)
}

// P1: what is no schema's.
func TestWhatIsNoStruct(t *testing.T) {
	kinds := []api.Kind{0, 1, 5, 10, 11, 13, 14, 255}
	lists := []int{math.MinInt, -1, 0, 1, 3, 4, math.MaxInt}
	var r api.Record
	for _, k := range kinds {
		for _, l := range lists {
			r.Fields = append(r.Fields, api.Field{Name: "\xff", Type: api.Type{Kind: k, Ref: -1, Lists: l}, Def: math.MaxUint64})
		}
	}
	for _, x := range []api.Record{{}, {Fields: []api.Field{}}, r} {
		n := len(x.Fields)
		if p := layout.Words(x); len(p.At) != n {
			t.Errorf("Words: %v", p)
		}
		if p := layout.Tabled(x, all(n)); len(p.At) != n {
			t.Errorf("Tabled: %v", p)
		}
		if p := layout.Rowed(x); len(p.At) != n {
			t.Errorf("Rowed: %v", p)
		}
		if l := layout.Sorted(x); len(l) != n {
			t.Errorf("Sorted: %v", l)
		}
	}
}

// R6, R8: what is handed in stays as it is, spare room included; no two lists of answers share memory, and what is asked again is answered again.
func TestAnswersAreNew(t *testing.T) {
	fields := append(record(t, words("u8 list<u8> text E T u64 data")...).Fields, make([]api.Field, 3)...)
	there := append(all(7), make([]bool, 3)...)
	fieldsWere, thereWas := slices.Clone(fields), slices.Clone(there)
	r := api.Record{Name: "S", Fields: fields[:7]}
	ask := func() [][]int {
		p, q, b := layout.Words(r), layout.Tabled(r, there[:7]), layout.Rowed(r)
		return [][]int{p.At, q.At, b.At, b.Groups, b.Bytes, layout.Sorted(r)}
	}
	once := ask()
	var were [][]int
	for _, l := range once {
		were = append(were, slices.Clone(l))
	}
	lists := append(once, ask()...)
	for i, l := range lists {
		for k := range l[:cap(l)] {
			l[:cap(l)][k] = 100 + i
		}
	}
	for i, l := range lists {
		if !slices.Equal(l, ints(100+i, 0, len(l))) {
			t.Errorf("list %d shares memory: %v", i, l)
		}
	}
	if again := ask(); !reflect.DeepEqual(again, were) {
		t.Errorf("%v, and then %v", were, again)
	}
	if !slices.Equal(fields, fieldsWere) || !slices.Equal(there, thereWas) {
		t.Errorf("handed in, and changed: %v %v", fields, there)
	}
}
