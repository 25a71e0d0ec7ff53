package schema_test

import (
	"math"
	"runtime/debug"
	"strconv"
	"strings"
	"testing"

	"transom/api"
	"transom/schema"
)

// sound: a schema with all that one may have.
func sound() api.Schema {
	s, _ := schema.Read(`
		enum E { a, b, c } enum F { d }
		struct S { x: u8 = 7; y: list<S>; t: T; e: E = c; f: list<list<list<F>>>; "é": text; d: data; b: bool = true; }
		struct T { x: i64 = -1; s: S; }
		root T;
	`)
	return s
}

// wantCheck checks what Check says of the sound schema, changed.
func wantCheck(t *testing.T, what string, want bool, change func(s *api.Schema)) {
	t.Helper()
	s := sound()
	change(&s)
	if got := schema.Check(s); got != want {
		t.Errorf("%s: Check %v: %v", what, got, s)
	}
}

// P5.3
func TestCheckOfWhatIsNone(t *testing.T) {
	wantCheck(t, "as it was made", true, func(s *api.Schema) {})
	wantCheck(t, "nothing", false, func(s *api.Schema) { *s = api.Schema{} })
	wantCheck(t, "no structs", false, func(s *api.Schema) { s.Structs = nil })
	wantCheck(t, "no enums but enums' kinds", false, func(s *api.Schema) { s.Enums = nil })
	wantCheck(t, "empty lists", true, func(s *api.Schema) {
		*s = one(api.Field{Name: "x", Type: api.Type{Kind: api.U8}})
		s.Enums = []api.Choice{}
	})
}

// P5.3
func TestCheckOfCounts(t *testing.T) {
	field := api.Field{Name: "x", Type: api.Type{Kind: api.U8}}
	for n := range 40 {
		wantCheck(t, "structs", 1 <= n && n <= 16, func(s *api.Schema) {
			*s = api.Schema{}
			for i := range n {
				s.Structs = append(s.Structs, api.Record{Name: "S" + strconv.Itoa(i), Fields: []api.Field{field}})
			}
		})
		wantCheck(t, "fields", 1 <= n && n <= 16, func(s *api.Schema) {
			s.Structs[0].Fields = nil
			for i := range n {
				s.Structs[0].Fields = append(s.Structs[0].Fields, api.Field{Name: "x" + strconv.Itoa(i), Type: api.Type{Kind: api.U8}})
			}
		})
		wantCheck(t, "enums", n <= 8, func(s *api.Schema) {
			*s = one(field)
			for i := range n {
				s.Enums = append(s.Enums, api.Choice{Name: "E" + strconv.Itoa(i), Names: []string{"a"}})
			}
		})
		wantCheck(t, "values", 1 <= n && n <= 32, func(s *api.Schema) {
			s.Enums[1].Names = nil
			for i := range n {
				s.Enums[1].Names = append(s.Enums[1].Names, "v"+strconv.Itoa(i))
			}
		})
	}
}

// names: texts, and whether each is a name of at most 40 bytes, and may be a label.
var names = []struct {
	text        string
	name, label bool
}{
	{"a", true, true}, {"_", true, true}, {"Z9", true, true}, {"struct", true, true}, {"true", true, true}, {"a_1", true, true},
	{strings.Repeat("n", 40), true, true}, {strings.Repeat("n", 41), false, false}, {strings.Repeat("é", 20), false, true}, {strings.Repeat("é", 20) + "x", false, false},
	{"", false, false}, {" ", false, true}, {"a b", false, true}, {"a ", false, true}, {" a", false, true}, {"a//", false, true}, {"//", false, true}, {"a.b", false, true},
	{"1", false, true}, {"1a", false, true}, {"-1", false, true}, {"é", false, true}, {"aé", false, true}, {"😀", false, true}, {"'", false, true}, {"{", false, true}, {"a;", false, true},
	{"\"", false, false}, {"a\"", false, false}, {"a\"b", false, false}, {"a\" \"b", false, false}, {"a\"//", false, false}, {"\\", false, false}, {"\\n", false, false},
	{"\n", false, false}, {"a\n", false, false}, {"\t", false, false}, {"\x00", false, false}, {"\x1f", false, false}, {"\x7f", false, false}, {"~", false, true}, {"a\r", false, false},
	{"\xff", false, false}, {"\xc3", false, false}, {"a\x80", false, false}, {"\xed\xa0\x80", false, false}, {"\xc0\xaf", false, false}, {"\xf4\x90\x80\x80", false, false},
	{strings.Repeat("x", 10000), false, false},
}

// P5.3
func TestCheckOfNames(t *testing.T) {
	for _, x := range names {
		wantCheck(t, "a struct's name", x.name, func(s *api.Schema) { s.Structs[0].Name = x.text })
		wantCheck(t, "an enum's name", x.name, func(s *api.Schema) { s.Enums[1].Name = x.text })
		wantCheck(t, "a value's name", x.name, func(s *api.Schema) { s.Enums[1].Names = []string{"q", x.text} })
		wantCheck(t, "a label", x.label, func(s *api.Schema) { s.Structs[1].Fields[1].Name = x.text })
	}
	for _, name := range []string{"bool", "i8", "i16", "i32", "i64", "u8", "u16", "u32", "u64", "text", "data", "list"} {
		wantCheck(t, "a struct's name", false, func(s *api.Schema) { s.Structs[1].Name = name })
		wantCheck(t, "an enum's name", false, func(s *api.Schema) { s.Enums[0].Name = name })
		wantCheck(t, "a value's name", true, func(s *api.Schema) { s.Enums[0].Names[1] = name })
		wantCheck(t, "a label", true, func(s *api.Schema) { s.Structs[0].Fields[7].Name = name })
	}
}

// P5.3
func TestCheckOfNamesThatAreTwice(t *testing.T) {
	wantCheck(t, "two structs", false, func(s *api.Schema) { s.Structs[1].Name = "S" })
	wantCheck(t, "two enums", false, func(s *api.Schema) { s.Enums[1].Name = "E" })
	wantCheck(t, "an enum and a struct", false, func(s *api.Schema) { s.Structs[1].Name = "F" })
	wantCheck(t, "two values", false, func(s *api.Schema) { s.Enums[0].Names[2] = "a" })
	wantCheck(t, "two labels", false, func(s *api.Schema) { s.Structs[0].Fields[7].Name = "é" })
	wantCheck(t, "two enums' values", true, func(s *api.Schema) { s.Enums[1].Names[0] = "a" })
	wantCheck(t, "two structs' labels", true, func(s *api.Schema) { s.Structs[1].Fields[1].Name = "y" })
	wantCheck(t, "a value as its enum", true, func(s *api.Schema) { s.Enums[1].Names[0] = "F" })
}

// P5.3
func TestCheckOfTypes(t *testing.T) {
	for kind := range 256 {
		for _, ref := range []int{math.MinInt, -1, 0, 1, 2, 3, math.MaxInt} {
			for _, lists := range []int{math.MinInt, -1, 0, 1, 2, 3, 4, math.MaxInt} {
				want := 0 <= lists && lists <= 3 && 1 <= kind && kind <= 13
				if kind == 10 || kind == 13 {
					want = want && (ref == 0 || ref == 1) // two enums, two structs
				} else {
					want = want && ref == 0
				}
				wantCheck(t, "a type", want, func(s *api.Schema) {
					s.Structs[0].Fields[1].Type = api.Type{Kind: api.Kind(kind), Ref: ref, Lists: lists}
				})
			}
		}
	}
}

// P5.3
func TestCheckOfDefaults(t *testing.T) {
	for kind := api.Bool; kind <= api.Struct; kind++ {
		for lists := range 4 {
			for _, def := range []uint64{0, 1, 2, 3, 255, 256, 1 << 63, math.MaxUint64} {
				typ := api.Type{Kind: kind, Lists: lists}
				want := def == 0
				if lists == 0 && kind <= api.Enum {
					want = schema.Fits(sound(), typ, def)
				}
				wantCheck(t, "a default", want, func(s *api.Schema) {
					s.Structs[0].Fields[1].Type, s.Structs[0].Fields[1].Def = typ, def
				})
			}
		}
	}
	wantCheck(t, "the last value", true, func(s *api.Schema) { s.Structs[0].Fields[3].Def = 2 })
	wantCheck(t, "a value behind the last", false, func(s *api.Schema) { s.Structs[0].Fields[3].Def = 3 })
	wantCheck(t, "a number's, in the second struct", false, func(s *api.Schema) { s.Structs[1].Fields[0].Type.Kind = api.U32 })
}

// P5.3
func TestCheckOfRoots(t *testing.T) {
	for _, root := range []int{math.MinInt, -1, 0, 1, 2, 3, math.MaxInt} {
		wantCheck(t, "a root", root == 0 || root == 1, func(s *api.Schema) { s.Root = root })
	}
}

// P5.3
func TestFitsAtTheEndsOfEachKind(t *testing.T) {
	s := api.Schema{Enums: []api.Choice{{Name: "E", Names: []string{"a", "b", "c"}}, {Name: "F", Names: []string{"a"}}, {Name: "G"}}}
	for _, x := range []struct {
		t       api.Type
		ok, not []uint64
	}{
		{api.Type{Kind: api.Bool}, []uint64{0, 1}, []uint64{2, 255, 256, 1 << 63, math.MaxUint64}},
		{api.Type{Kind: api.U8}, []uint64{0, 1, 127, 128, 255}, []uint64{256, 1 << 32, math.MaxUint64, 1<<64 - 128}},
		{api.Type{Kind: api.U16}, []uint64{0, 256, 32768, 65535}, []uint64{65536, 1 << 32, math.MaxUint64}},
		{api.Type{Kind: api.U32}, []uint64{0, 65536, math.MaxUint32}, []uint64{1 << 32, 1 << 63, math.MaxUint64}},
		{api.Type{Kind: api.U64}, []uint64{0, 1 << 32, 1 << 63, math.MaxUint64}, nil},
		{api.Type{Kind: api.I8}, []uint64{0, 127, 1<<64 - 128, math.MaxUint64}, []uint64{128, 255, 256, 1<<64 - 129, 1<<32 - 1, 1 << 63}},
		{api.Type{Kind: api.I16}, []uint64{0, 32767, 1<<64 - 32768, math.MaxUint64}, []uint64{32768, 65535, 65536, 1<<64 - 32769, 1 << 63}},
		{api.Type{Kind: api.I32}, []uint64{0, math.MaxInt32, 1<<64 - 1<<31, math.MaxUint64}, []uint64{1 << 31, math.MaxUint32, 1 << 32, 1<<64 - 1<<31 - 1, 1 << 63}},
		{api.Type{Kind: api.I64}, []uint64{0, 1 << 32, 1 << 63, math.MaxInt64, math.MaxUint64}, nil},
		{api.Type{Kind: api.Enum}, []uint64{0, 1, 2}, []uint64{3, 4, 255, 256, 1 << 63, math.MaxUint64}},
		{api.Type{Kind: api.Enum, Ref: 1}, []uint64{0}, []uint64{1, 2, math.MaxUint64}},
		{api.Type{Kind: api.Enum, Ref: 2}, nil, []uint64{0, 1, math.MaxUint64}},
		{api.Type{Kind: api.Enum, Ref: 3}, nil, []uint64{0, 1}},
		{api.Type{Kind: api.Enum, Ref: -1}, nil, []uint64{0, 1}},
		{api.Type{Kind: api.Enum, Ref: math.MinInt}, nil, []uint64{0}},
		{api.Type{Kind: api.Enum, Ref: math.MaxInt}, nil, []uint64{0}},
		{api.Type{Kind: api.Text}, nil, []uint64{0, 1}},
		{api.Type{Kind: api.Data}, nil, []uint64{0, 1}},
		{api.Type{Kind: api.Struct}, nil, []uint64{0, 1}},
		{api.Type{}, nil, []uint64{0, 1}},
		{api.Type{Kind: 14}, nil, []uint64{0, 1}},
		{api.Type{Kind: 255}, nil, []uint64{0, 1, math.MaxUint64}},
	} {
		for _, n := range x.ok {
			if !schema.Fits(s, x.t, n) {
				t.Errorf("%v: %d doesn't fit", x.t, n)
			}
		}
		for _, n := range x.not {
			if schema.Fits(s, x.t, n) {
				t.Errorf("%v: %d fits", x.t, n)
			}
		}
		for _, lists := range []int{math.MinInt, -1, 1, 2, 3, math.MaxInt} {
			x.t.Lists = lists
			for _, n := range append(x.ok, x.not...) {
				if schema.Fits(s, x.t, n) {
					t.Errorf("%v: %d fits a list", x.t, n)
				}
			}
		}
	}
}

// wantLoops checks what Loops says of a text's schema.
func wantLoops(t *testing.T, text string, want bool) {
	t.Helper()
	s, f := schema.Read(text)
	if f != (api.Fault{}) || schema.Loops(s) != want {
		t.Errorf("%q: fault %v, Loops %v", text, f, schema.Loops(s))
	}
}

// P5.3
func TestLoops(t *testing.T) {
	wantLoops(t, "struct S { next: S; } root S;", true)
	wantLoops(t, "struct S { x: u8; next: list<list<S>>; } root S;", true)
	wantLoops(t, "struct S { x: u8; } root S;", false)
	wantLoops(t, "struct S { t: T; } struct T { s: S; } root S;", true)
	wantLoops(t, "struct S { t: T; } struct T { s: S; } root T;", true)
	wantLoops(t, "struct S { t: T; } struct T { x: u8; t: list<T>; } root S;", true) // the root itself isn't on it
	wantLoops(t, "struct S { x: u8; } struct T { t: T; } root S;", false)            // no way leads there
	wantLoops(t, "struct S { x: u8; } struct T { s: S; t: T; } root S;", false)
	wantLoops(t, "struct S { a: T; b: T; c: U; } struct T { u: U; v: list<U>; } struct U { x: u8; } root S;", false) // twice, but not back
	wantLoops(t, "struct S { a: U; b: T; } struct T { u: U; s: S; } struct U { x: u8; } root S;", true)
	wantLoops(t, "enum E { a } struct S { t: T; } struct T { e: list<E>; f: E; } root S;", false) // an enum's place is no struct's
}

// chain: structs each of which leads to the next, so many times over, and the last one nowhere.
func chain(count, times int) api.Schema {
	s := api.Schema{Structs: make([]api.Record, count)}
	for i := range count - 1 {
		for range times {
			s.Structs[i].Fields = append(s.Structs[i].Fields, api.Field{Type: api.Type{Kind: api.Struct, Ref: i + 1}})
		}
	}
	return s
}

// P5.3, P1
func TestLoopsOfChains(t *testing.T) {
	for _, s := range []api.Schema{chain(16, 16), chain(1000, 50), chain(100000, 1)} { // 16 to the 15th ways, and more
		if schema.Loops(s) {
			t.Error("a chain loops")
		}
		last := &s.Structs[len(s.Structs)-1]
		last.Fields = []api.Field{{Type: api.Type{Kind: api.Struct, Ref: len(s.Structs) / 2}}}
		if !schema.Loops(s) {
			t.Error("a chain that leads back doesn't loop")
		}
	}
}

// P1: what is no schema may be deep, and Go's stack has an end.
func TestLoopsOfADeepChain(t *testing.T) {
	defer debug.SetMaxStack(debug.SetMaxStack(1 << 20))
	s := chain(300000, 2)
	if schema.Loops(s) {
		t.Error("a deep chain loops")
	}
	s.Structs[len(s.Structs)-1].Fields = []api.Field{{Type: api.Type{Kind: api.Struct, Ref: 0}}}
	if !schema.Loops(s) {
		t.Error("a deep chain that leads back to its root doesn't loop")
	}
}

// P5.3: three structs with two fields each, of each of the structs or of none of them, and each root.
func TestLoopsOfAllSmallSchemas(t *testing.T) {
	types := []api.Type{{Kind: api.Struct}, {Kind: api.Struct, Ref: 1, Lists: 1}, {Kind: api.Struct, Ref: 2}, {Kind: api.Enum, Ref: 1}}
	for n := range 1 << 12 {
		s := api.Schema{Structs: make([]api.Record, 3)}
		for i := range 6 {
			one := &s.Structs[i/2]
			one.Fields = append(one.Fields, api.Field{Type: types[n>>(2*i)&3]})
		}
		for s.Root = range 3 {
			if got := schema.Loops(s); got != comesBack(s) {
				t.Fatalf("%v: Loops %v", s, got)
			}
		}
	}
}

// P1: places that are none.
func TestLoopsOfWhatIsNoSchema(t *testing.T) {
	for _, place := range []int{math.MinInt, -1, 1, 2, math.MaxInt} {
		s := one(api.Field{Name: "x", Type: api.Type{Kind: api.Struct, Ref: place}})
		if schema.Loops(s) {
			t.Errorf("a struct at %d loops", place)
		}
		s.Structs[0].Fields[0].Type.Ref, s.Root = 0, place
		if schema.Loops(s) {
			t.Errorf("a root at %d loops", place)
		}
	}
	if schema.Loops(api.Schema{}) || schema.Check(api.Schema{}) || schema.Fits(api.Schema{}, api.Type{Kind: api.Enum}, 0) {
		t.Error("an empty schema")
	}
}
