package view_test

import (
	"math/big"
	"math/rand"
	"reflect"
	"strconv"
	"testing"
	"unicode/utf8"

	"transom/api"
	"transom/schema"
	"transom/view"
)

// P7.1 to P7.3, said once more apart from the program: what a value is, how deep it is, and what its default is.

// bits: of a number's kind, and whether it has a sign.
var bits = map[api.Kind]struct {
	n    uint
	sign bool
}{
	api.I8: {8, true}, api.I16: {16, true}, api.I32: {32, true}, api.I64: {64, true},
	api.U8: {8, false}, api.U16: {16, false}, api.U32: {32, false}, api.U64: {64, false},
}

// isNumber: is n one of a number's type?
func isNumber(s api.Schema, t api.Type, n uint64) bool {
	switch t.Kind {
	case api.Bool:
		return n == 0 || n == 1
	case api.Enum:
		return n < uint64(len(s.Enums[t.Ref].Names))
	}
	x, one := bits[t.Kind], big.NewInt(1)
	least, behind := new(big.Int), new(big.Int).Lsh(one, x.n)
	is := new(big.Int).SetUint64(n)
	if x.sign {
		behind.Rsh(behind, 1)
		least.Neg(behind)
		is.SetInt64(int64(n))
	}
	return least.Cmp(is) <= 0 && is.Cmp(behind) < 0
}

// isValue: is v, in which what is empty is nil, a value of a type, however deep?
func isValue(s api.Schema, t api.Type, v api.Val) bool {
	var just api.Val // of v what such a value has
	kids := make([]api.Type, len(v.Kids))
	switch {
	case t.Lists > 0:
		just.Kids = v.Kids
		for i := range kids {
			kids[i] = api.Type{Kind: t.Kind, Ref: t.Ref, Lists: t.Lists - 1}
			if t.Lists == 1 && t.Kind == api.Struct && !v.Kids[i].Has {
				return false
			}
		}
	case t.Kind == api.Struct && v.Has:
		just.Has, just.Kids = true, v.Kids
		if len(kids) != len(s.Structs[t.Ref].Fields) {
			return false
		}
		for i, f := range s.Structs[t.Ref].Fields {
			kids[i] = f.Type
		}
	case t.Kind == api.Text, t.Kind == api.Data:
		just.Bytes = v.Bytes
		if t.Kind == api.Text && !utf8.Valid(v.Bytes) {
			return false
		}
	case t.Kind != api.Struct:
		just.Num = v.Num
		if !isNumber(s, t, v.Num) {
			return false
		}
	}
	for i, x := range kids {
		if !isValue(s, x, v.Kids[i]) {
			return false
		}
	}
	return reflect.DeepEqual(v, just)
}

// deepOf: how many structs that are there, and lists that aren't empty, stand in one another.
func deepOf(v api.Val) int {
	deep := 0
	for _, kid := range v.Kids {
		deep = max(deep, deepOf(kid))
	}
	if v.Has || len(v.Kids) > 0 {
		deep++
	}
	return deep
}

// walker makes schemas and values.
type walker struct {
	*rand.Rand
	s api.Schema
}

// aSchema: of up to 4 structs, that lead to each other.
func (w *walker) aSchema() {
	w.s = api.Schema{Enums: []api.Choice{{Name: "E", Names: []string{"a", "b", "c"}}, {Name: "F", Names: []string{"a"}}}}
	count := 1 + w.Intn(4)
	for i := range count {
		r := api.Record{Name: "S" + strconv.Itoa(i)}
		for k := range 1 + w.Intn(5) {
			f := api.Field{Name: "x" + strconv.Itoa(k), Type: api.Type{Kind: api.Kind(1 + w.Intn(15)), Lists: max(0, w.Intn(8)-4)}}
			if f.Type.Kind >= api.Struct {
				f.Type.Kind, f.Type.Ref = api.Struct, w.Intn(count)
			}
			if f.Type.Kind == api.Enum {
				f.Type.Ref = w.Intn(2)
			}
			if f.Type.Lists == 0 && f.Type.Kind <= api.Enum {
				f.Def = w.number(f.Type)
			}
			r.Fields = append(r.Fields, f)
		}
		w.s.Structs = append(w.s.Structs, r)
	}
	w.s.Root = w.Intn(count)
}

// number: one of a type.
func (w *walker) number(t api.Type) uint64 {
	for {
		if n := w.edge(); isNumber(w.s, t, n) {
			return n
		}
	}
}

// edge: a number at a power of 2, or next to one, or what comes.
func (w *walker) edge() uint64 {
	if w.Intn(4) == 0 {
		return w.Uint64()
	}
	return uint64(1)<<w.Intn(64)*uint64(w.Intn(2)) + uint64(w.Intn(3)) - 1
}

// bytes: often UTF-8.
func (w *walker) bytes(text bool) []byte {
	l := []string{"", "", "a", "é€", "😀x", "\x00", "\xff", "a\xc3", "\xed\xa0\x80"}
	if text {
		l = l[:6]
	}
	return []byte(l[w.Intn(len(l))])
}

// value: one of a type, that is mostly so deep at most; the deeper, the emptier.
func (w *walker) value(t api.Type, room int) api.Val {
	switch {
	case t.Lists > 0:
		var v api.Val
		for range w.Intn(4) * min(1, max(0, room)) {
			v.Kids = append(v.Kids, w.element(t, room-1))
		}
		return v
	case t.Kind == api.Struct:
		if room <= 0 || w.Intn(12) == 0 {
			return api.Val{}
		}
		return w.structure(t.Ref, room)
	case t.Kind == api.Text || t.Kind == api.Data:
		return api.Val{Bytes: w.bytes(t.Kind == api.Text)}
	}
	return api.Val{Num: w.number(t)}
}

// element: a value that may stand in a list.
func (w *walker) element(t api.Type, room int) api.Val {
	t.Lists--
	if t.Lists == 0 && t.Kind == api.Struct {
		return w.structure(t.Ref, room)
	}
	return w.value(t, room)
}

// structure: one that is there.
func (w *walker) structure(rec, room int) api.Val {
	v := api.Val{Has: true}
	fields := w.s.Structs[rec].Fields
	one := w.Intn(len(fields)) // the others may be less deep, so that a value doesn't grow too wide
	for range 3 {
		if fields[one].Type.Kind != api.Struct {
			one = w.Intn(len(fields))
		}
	}
	for i, f := range fields {
		if i == one {
			v.Kids = append(v.Kids, w.value(f.Type, room-1))
		} else {
			v.Kids = append(v.Kids, w.value(f.Type, min(room-1, w.Intn(3))))
		}
	}
	return v
}

// spoil changes something somewhere in a value.
func (w *walker) spoil(v *api.Val) {
	for len(v.Kids) > 0 && w.Intn(4) > 0 {
		v = &v.Kids[w.Intn(len(v.Kids))]
	}
	switch w.Intn(6) {
	case 0:
		v.Num = w.edge()
	case 1:
		v.Bytes = w.bytes(false)
	case 2:
		v.Has = !v.Has
	case 3:
		v.Kids = append(v.Kids, api.Val{Has: w.Intn(2) == 0})
	case 4:
		v.Kids = v.Kids[:w.Intn(len(v.Kids)+1)]
	case 5:
		*v = w.value(api.Type{Kind: api.Kind(1 + w.Intn(12)), Lists: w.Intn(2)}, 3)
	}
}

// check holds a value, and its fields, against what is said above; it tells whether the value fits.
func (w *walker) check(t *testing.T, rec int, v api.Val) bool {
	was := bareOf(v)
	fits := was.Has && isValue(w.s, api.Type{Kind: api.Struct, Ref: rec}, was) && deepOf(was) <= api.MaxNest
	if got := view.Fits(w.s, rec, v); got != fits {
		t.Fatalf("%v, struct %d: Fits %v: %v", w.s, rec, got, v)
	}
	if !fits {
		return false
	}
	x := view.Of(v)
	if got := view.Tree(w.s, rec, x); !same(got, v) || !view.Fits(w.s, rec, got) {
		t.Fatalf("%v, struct %d: Tree %v of %v", w.s, rec, got, v)
	}
	defaults := view.Default(w.s.Structs[rec])
	for i, f := range w.s.Structs[rec].Fields {
		if view.Empty(f, x, i) != same(v.Kids[i], defaults.Kids[i]) || defaults.Kids[i].Num != f.Def {
			t.Fatalf("%v: Empty of %v, default %v", f, v.Kids[i], defaults.Kids[i])
		}
	}
	if !same(v, was) {
		t.Fatalf("changed: %v, %v", was, v)
	}
	return true
}

// P7.1, P7.2, P7.3: values of many schemas, as they are and with something changed.
func TestManyValues(t *testing.T) {
	w := &walker{Rand: rand.New(rand.NewSource(7))}
	fit, deep, tooDeep, spoilt, still := 0, 0, 0, 0, 0
	for range 3000 {
		if w.aSchema(); !schema.Check(w.s) {
			t.Fatalf("no schema: %v", w.s)
		}
		for range 10 {
			rec := w.Intn(len(w.s.Structs))
			v := w.structure(rec, 1+w.Intn(15))
			if w.check(t, rec, v) {
				fit++
				deep += deepOf(v) / api.MaxNest
			} else {
				tooDeep++
			}
			for range 3 {
				if w.spoil(&v); w.check(t, rec, v) {
					still++
				} else {
					spoilt++
				}
			}
		}
	}
	if fit < 20000 || deep < 100 || tooDeep < 100 || spoilt < 10000 || still < 1000 {
		t.Errorf("too few: %d fit, %d just so deep, %d too deep, %d spoilt, %d spoilt that fit", fit, deep, tooDeep, spoilt, still)
	}
}
