package layout_test

import (
	"math/rand"
	"slices"
	"strconv"
	"testing"

	"transom/api"
	"transom/layout"
)

// P6.1 to P6.3, said once more apart from the program: a field stands behind all those that go ahead of it.

// walkTypes: one of each kind, and some that are lists.
var walkTypes = func() []api.Type {
	var l []api.Type
	for k := api.Bool; k <= api.Struct; k++ {
		l = append(l, api.Type{Kind: k})
	}
	return append(l, api.Type{Kind: api.U8, Lists: 1}, api.Type{Kind: api.U64, Lists: 3}, api.Type{Kind: api.Text, Lists: 2}, api.Type{Kind: api.Struct, Lists: 1})
}()

func walkRecord(types []api.Type) api.Record {
	r := api.Record{Name: "S"}
	for i, x := range types {
		r.Fields = append(r.Fields, api.Field{Name: "x" + strconv.Itoa(i), Type: x})
	}
	return r
}

// widthIn: a number's width in words, in a table, in a row; of what is no number 0, but 4 in a table.
func widthIn(t api.Type) (bits, inline, bytes int) {
	x, ok := sizes[t.Kind]
	if !ok || t.Lists > 0 {
		return 0, 4, 0
	}
	return x.bits, x.bytes, x.bytes
}

// ahead: the sum of the widths of those that are ahead of place i, by their order or, if they aren't to keep it, the wider ones first.
func ahead(widths []int, i int, keep bool) int {
	sum := 0
	for k, w := range widths {
		if !keep && w > widths[i] || (keep || w == widths[i]) && k < i {
			sum += w
		}
	}
	return sum
}

func sumOf(l []int) int {
	sum := 0
	for _, n := range l {
		sum += n
	}
	return sum
}

// walkWords checks a struct in words.
func walkWords(t *testing.T, types []api.Type) {
	t.Helper()
	var bits []int
	for _, x := range types {
		w, _, _ := widthIn(x)
		bits = append(bits, w)
	}
	got := layout.Words(walkRecord(types))
	ok, pointers := len(got.At) == len(types), 0
	for i := range types {
		want := ahead(bits, i, false)
		if bits[i] == 0 {
			want = pointers
			pointers++
		}
		ok = ok && got.At[i] == want
	}
	if words := sumOf(bits); !ok || got.Ptrs != pointers || got.Words*64 < words || got.Words*64 >= words+64 {
		t.Fatalf("%v: Words %v", types, got)
	}
}

// walkTable checks a struct as a table.
func walkTable(t *testing.T, types []api.Type, there []bool) {
	t.Helper()
	inlines := make([]int, len(types))
	for i, x := range types {
		if there[i] {
			_, inlines[i], _ = widthIn(x)
		}
	}
	base, widest := 4, 4
	if slices.Contains(inlines, 8) { // the only ones that can't stand where the first 4 bytes end
		base, widest = 8, 8
	}
	got := layout.Tabled(walkRecord(types), there)
	ok := len(got.At) == len(types)
	for i := range types {
		want := 0
		if there[i] {
			want = base + ahead(inlines, i, false)
		}
		ok = ok && got.At[i] == want
	}
	if !ok || got.Size != base+sumOf(inlines) || got.Align != widest {
		t.Fatalf("%v %v: Tabled %v", types, there, got)
	}
}

// walkRow checks a struct in a row.
func walkRow(t *testing.T, types []api.Type) {
	t.Helper()
	var bytes, at, groups, texts []int
	for i, x := range types {
		_, _, w := widthIn(x)
		bytes = append(bytes, w)
		at = append(at, 0)
		if w == 0 && (x.Kind == api.Text || x.Kind == api.Data) && x.Lists == 0 {
			texts = append(texts, i)
		} else if w == 0 {
			groups = append(groups, i)
		}
	}
	for i := range types {
		if bytes[i] > 0 {
			at[i] = ahead(bytes, i, true)
		}
	}
	got := layout.Rowed(walkRecord(types))
	if got.Size != sumOf(bytes) || !slices.Equal(got.At, at) || !slices.Equal(got.Groups, groups) || !slices.Equal(got.Bytes, texts) {
		t.Fatalf("%v: Rowed %v", types, got)
	}
}

// walk checks a struct of these types in all three, with each of some choices of what is there.
func walk(t *testing.T, types []api.Type, choices ...int) {
	t.Helper()
	walkWords(t, types)
	walkRow(t, types)
	for _, c := range choices {
		there := make([]bool, len(types))
		for i := range there {
			there[i] = c>>i&1 == 1
		}
		walkTable(t, types, there)
	}
}

// P6.1, P6.2, P6.3: all structs with up to 3 fields, with all that may be there.
func TestAllSmallStructs(t *testing.T) {
	n := len(walkTypes)
	for a := range n {
		walk(t, []api.Type{walkTypes[a]}, 0, 1)
		for b := range n {
			walk(t, []api.Type{walkTypes[a], walkTypes[b]}, 0, 1, 2, 3)
			for c := range n {
				walk(t, []api.Type{walkTypes[a], walkTypes[b], walkTypes[c]}, 0, 1, 2, 3, 4, 5, 6, 7)
			}
		}
	}
}

// P6.1, P6.2, P6.3: structs with up to 16 fields.
func TestManyStructs(t *testing.T) {
	random := rand.New(rand.NewSource(6))
	for range 20000 {
		types := make([]api.Type, 1+random.Intn(api.MaxFields))
		for i := range types {
			types[i] = walkTypes[random.Intn(len(walkTypes))]
		}
		walk(t, types, 0, 1<<16-1, random.Intn(1<<16))
	}
}
