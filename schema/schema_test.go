package schema_test

import (
	"math"
	"reflect"
	"strconv"
	"strings"
	"testing"

	"transom/api"
	"transom/idl"
	"transom/schema"
)

// wantSchema checks that a text is just this schema, and that this is one.
func wantSchema(t *testing.T, text string, want api.Schema) {
	t.Helper()
	s, f := schema.Read(text)
	if f != (api.Fault{}) {
		t.Errorf("%.60q: fault %v", text, f)
		return
	}
	if !reflect.DeepEqual(s, want) {
		t.Errorf("%.60q: %v, want %v", text, s, want)
	}
	if !schema.Check(s) {
		t.Errorf("%.60q: Check says that it is none", text)
	}
}

// wantFine checks that a text is a schema.
func wantFine(t *testing.T, text string) api.Schema {
	t.Helper()
	s, f := schema.Read(text)
	if f != (api.Fault{}) || !schema.Check(s) {
		t.Errorf("%.80q: fault %v, Check %v", text, f, schema.Check(s))
	}
	return s
}

// wantFault checks the fault at the place of the one ^ in a text, which isn't part of it, and that there is no schema beside it.
func wantFault(t *testing.T, marked string, code api.Errno) {
	t.Helper()
	before, behind, ok := strings.Cut(marked, "^")
	if !ok {
		t.Fatalf("%.60q: no ^", marked)
	}
	want := api.Fault{Code: code, At: len(before)}
	s, f := schema.Read(before + behind)
	if f != want {
		t.Errorf("%.80q: fault %v, want %v", marked, f, want)
	}
	if !reflect.DeepEqual(s, api.Schema{}) {
		t.Errorf("%.80q: %v beside a fault", marked, s)
	}
}

// numbered writes names down, from a first number on to behind a last one, each between a text before and behind it.
func numbered(before string, from, to int, behind string) string {
	var all []string
	for i := from; i < to; i++ {
		all = append(all, before+strconv.Itoa(i)+behind)
	}
	return strings.Join(all, "")
}

// one: a schema of one struct S.
func one(fields ...api.Field) api.Schema {
	return api.Schema{Structs: []api.Record{{Name: "S", Fields: fields}}}
}

// P5.1, P5.2
func TestReadOfTheExamples(t *testing.T) {
	want := one(api.Field{Name: "x", Type: api.Type{Kind: api.Enum}, Def: 1})
	want.Enums = []api.Choice{{Name: "E", Names: []string{"a", "b"}}}
	wantSchema(t, "enum E { a, b } struct S { x: E = b; } root S;", want)
	wantFault(t, "struct S { x: u8 = ^256; } root S;", api.ErrValue)
	wantFault(t, "struct S { x: ^T; } root S;", api.ErrType)
	wantFine(t, "struct S { next: S; } root S;")
}

// P5.1
func TestReadOfEachBasicType(t *testing.T) {
	for name, kind := range map[string]api.Kind{
		"bool": api.Bool, "i8": api.I8, "i16": api.I16, "i32": api.I32, "i64": api.I64,
		"u8": api.U8, "u16": api.U16, "u32": api.U32, "u64": api.U64, "text": api.Text, "data": api.Data,
	} {
		for lists := range api.MaxLists + 1 {
			written := strings.Repeat("list<", lists) + name + strings.Repeat(">", lists)
			wantSchema(t, "struct S { x: "+written+"; } root S;", one(api.Field{Name: "x", Type: api.Type{Kind: kind, Lists: lists}}))
		}
	}
}

// P5.1
func TestReadOfAWholeSchema(t *testing.T) {
	wantSchema(t, `
		root B; // ahead of what it names
		struct A { "é 1": list<list<B>>; e: F = true; g: list<E>; }
		enum E { a, b, c, }
		struct B { a: A; b: B; x: i16 = -300; y: bool = true; n: E = c; m: E; }
		enum F { list, u8, E, A, true }
		struct true { false: bool = false; }
	`, api.Schema{
		Structs: []api.Record{
			{Name: "A", Fields: []api.Field{
				{Name: "é 1", Type: api.Type{Kind: api.Struct, Ref: 1, Lists: 2}},
				{Name: "e", Type: api.Type{Kind: api.Enum, Ref: 1}, Def: 4},
				{Name: "g", Type: api.Type{Kind: api.Enum, Lists: 1}},
			}},
			{Name: "B", Fields: []api.Field{
				{Name: "a", Type: api.Type{Kind: api.Struct}},
				{Name: "b", Type: api.Type{Kind: api.Struct, Ref: 1}},
				{Name: "x", Type: api.Type{Kind: api.I16}, Def: 1<<64 - 300},
				{Name: "y", Type: api.Type{Kind: api.Bool}, Def: 1},
				{Name: "n", Type: api.Type{Kind: api.Enum}, Def: 2},
				{Name: "m", Type: api.Type{Kind: api.Enum}},
			}},
			{Name: "true", Fields: []api.Field{{Name: "false", Type: api.Type{Kind: api.Bool}}}},
		},
		Enums: []api.Choice{{Name: "E", Names: []string{"a", "b", "c"}}, {Name: "F", Names: []string{"list", "u8", "E", "A", "true"}}},
		Root:  1,
	})
}

// P5.1
func TestNamesThatAreTakenAlready(t *testing.T) {
	for _, name := range []string{"bool", "i8", "i16", "i32", "i64", "u8", "u16", "u32", "u64", "text", "data", "list"} {
		wantFault(t, "enum ^"+name+" { a } struct S { x: u8; } root S;", api.ErrTwice)
		wantFault(t, "struct ^"+name+" { x: u8; } root S;", api.ErrTwice)
		wantFine(t, "enum E { "+name+" } struct S { "+name+": E = "+name+"; } root S;") // a value and a label may be called so
	}
	for _, name := range []string{"Bool", "i9", "u", "u128", "U8", "lists", "struct", "enum", "root", "true", "string", "f32", "int", "_"} {
		wantFine(t, "enum "+name+" { a } struct S { x: "+name+"; } root S;")
		wantFine(t, "struct "+name+" { x: "+name+"; } root "+name+";")
	}
	wantFault(t, "enum E { a } enum F { a } enum ^E { a } struct S { x: u8; } root S;", api.ErrTwice)
	wantFault(t, "struct S { x: u8; } struct T { x: u8; } struct ^S { x: u8; } root S;", api.ErrTwice)
	wantFault(t, "enum E { a } struct ^E { x: u8; } root E;", api.ErrTwice)
	wantFault(t, "struct ^E { x: u8; } enum E { a } root E;", api.ErrTwice) // the struct's is the second, wherever it stands
	wantFine(t, "enum E { E } struct S { S: E = E; } root S;")
}

// P5.1
func TestValuesAndLabelsThatAreTwice(t *testing.T) {
	wantFault(t, "enum E { a, b, ^a, b } struct S { x: u8; } root S;", api.ErrTwice)
	wantFault(t, "enum E { a, ^a, a } struct S { x: u8; } root S;", api.ErrTwice)
	wantFine(t, "enum E { a, A } enum F { a, A } struct S { x: u8; X: u8; } struct T { x: u8; } root S;")
	wantFault(t, "struct S { x: u8; y: u8; ^y: u8; x: u8; } root S;", api.ErrTwice)
	wantFault(t, `struct S { x: u8; ^"x": text; } root S;`, api.ErrTwice) // in quotes it is the same label
	wantFault(t, `struct S { "é": u8; ^"é": u8; } root S;`, api.ErrTwice)
	wantFine(t, `struct S { x: u8; "x ": u8; " x": u8; } root S;`)
}

// P5.1
func TestMostEnums(t *testing.T) {
	const s = " struct S { x: E7; } root S;"
	wantFine(t, numbered("enum E", 0, 8, " { a }")+s)
	wantFault(t, numbered("enum E", 0, 8, " { a }")+"enum ^E8 { a }"+s, api.ErrMany)
	wantFault(t, numbered("enum E", 0, 8, " { a }")+"enum ^E8 { a, a } enum E9 { a }"+s, api.ErrMany)
	wantFault(t, numbered("enum E", 0, 8, " { a }")+"enum ^E3 { a }"+s, api.ErrTwice)
	wantFault(t, numbered("enum E", 0, 8, " { a }")+"enum ^E8 { }"+s, api.ErrMany)
}

// P5.1
func TestMostValues(t *testing.T) {
	const s = "struct S { x: E; } root S;"
	wantFault(t, "enum ^E { } "+s, api.ErrMany)
	wantFine(t, "enum E { a } "+s)
	wantFine(t, "enum E { "+numbered("a", 0, 32, ",")+" } "+s)
	wantFault(t, "enum ^E { "+numbered("a", 0, 33, ",")+" } "+s, api.ErrMany)
	wantFault(t, "enum ^E { a0, a0, "+numbered("a", 1, 32, ",")+" } "+s, api.ErrMany) // ahead of the value that is twice
	wantFault(t, "enum E { "+numbered("a", 0, 31, ",")+" ^a7 } "+s, api.ErrTwice)
	last := wantFine(t, "enum E { "+numbered("a", 0, 32, ",")+" } struct S { x: E = a31; } root S;")
	if last.Structs[0].Fields[0].Def != 31 {
		t.Errorf("the last value: %d", last.Structs[0].Fields[0].Def)
	}
}

// P5.1
func TestMostStructs(t *testing.T) {
	wantFine(t, numbered("struct S", 0, 16, " { x: S15; }")+"root S15;")
	wantFault(t, numbered("struct S", 0, 16, " { x: u8; }")+"struct ^S16 { x: u8; } root S0;", api.ErrMany)
	wantFault(t, numbered("struct S", 0, 16, " { x: u8; }")+"struct ^S16 { x: u8; x: u8; } struct S17 { x: u8; } root S0;", api.ErrMany)
	wantFault(t, numbered("struct S", 0, 16, " { x: u8; }")+"struct ^S3 { x: u8; } root S0;", api.ErrTwice)
	if s := wantFine(t, numbered("struct S", 0, 16, " { x: S15; }")+"root S15;"); s.Root != 15 || s.Structs[0].Fields[0].Type.Ref != 15 {
		t.Errorf("the last struct: %v", s)
	}
}

// P5.1
func TestMostFields(t *testing.T) {
	wantFault(t, "struct ^S { } root S;", api.ErrMany)
	wantFine(t, "struct S { x: u8; } root S;")
	wantFine(t, "struct S { "+numbered("x", 0, 16, ": u8;")+" } root S;")
	wantFault(t, "struct ^S { "+numbered("x", 0, 17, ": u8;")+" } root S;", api.ErrMany)
	wantFault(t, "struct ^S { x0: u8; x0: u8; "+numbered("x", 1, 16, ": u8;")+" } root S;", api.ErrMany)
	wantFault(t, "struct S { "+numbered("x", 0, 15, ": u8;")+" ^x7: u8; } root S;", api.ErrTwice)
}

// P5.1
func TestTypesThatAreNone(t *testing.T) {
	for _, name := range []string{"T", "string", "U8", "u128", "Bool", "s", "x", "a", "true", "struct", "enum", "root"} {
		wantFault(t, "enum E { a } struct S { y: u8; x: ^"+name+"; } root S;", api.ErrType)
		wantFault(t, "enum E { a } struct S { y: u8; x: ^list<list<"+name+">>; } root S;", api.ErrType) // at the first token of the type
		wantFault(t, "enum E { a } struct S { y: u8; x: ^"+name+" = 1; } root S;", api.ErrType)
	}
	wantFine(t, "struct S { x: T; y: E; } struct T { x: u8; } enum E { a } root S;")
}

// P5.1
func TestDefaultsAtTheEndsOfEachKind(t *testing.T) {
	for _, x := range []struct {
		kind                     string
		least, most              string
		leastNum, mostNum        uint64
		below, above, otherAbove string
	}{
		{"i8", "-128", "127", 1<<64 - 128, 127, "-129", "128", "255"},
		{"i16", "-32768", "32767", 1<<64 - 32768, 32767, "-32769", "32768", "65535"},
		{"i32", "-2147483648", "2147483647", 1<<64 - 1<<31, math.MaxInt32, "-2147483649", "2147483648", "4294967295"},
		{"i64", "-9223372036854775808", "9223372036854775807", 1 << 63, math.MaxInt64, "-9223372036854775809", "9223372036854775808", "18446744073709551615"},
		{"u8", "0", "255", 0, 255, "-1", "256", "-128"},
		{"u16", "0", "65535", 0, 65535, "-1", "65536", "-32768"},
		{"u32", "0", "4294967295", 0, math.MaxUint32, "-1", "4294967296", "-2147483648"},
		{"u64", "0", "18446744073709551615", 0, math.MaxUint64, "-1", "18446744073709551616", "99999999999999999999"},
	} {
		for text, want := range map[string]uint64{x.least: x.leastNum, x.most: x.mostNum, "0": 0, "7": 7} {
			s := wantFine(t, "struct S { x: "+x.kind+" = "+text+"; } root S;")
			if got := s.Structs[0].Fields[0].Def; got != want {
				t.Errorf("%s = %s: %d, want %d", x.kind, text, got, want)
			}
		}
		for _, text := range []string{x.below, x.above, x.otherAbove, "true", "a", "S", "x", "null"} {
			wantFault(t, "struct S { x: "+x.kind+" = ^"+text+"; } root S;", api.ErrValue)
		}
		wantFault(t, "struct S { x: list<"+x.kind+"> = ^7; } root S;", api.ErrValue)
	}
}

// P5.1
func TestDefaultsByName(t *testing.T) {
	for text, want := range map[string]uint64{"true": 1, "false": 0} {
		wantSchema(t, "struct S { x: bool = "+text+"; } root S;", one(api.Field{Name: "x", Type: api.Type{Kind: api.Bool}, Def: want}))
		wantFault(t, "struct S { x: list<bool> = ^"+text+"; } root S;", api.ErrValue)
		wantFault(t, "enum E { a } struct S { x: E = ^"+text+"; } root S;", api.ErrValue)
	}
	for _, text := range []string{"1", "0", "-1", "True", "TRUE", "t", "bool", "a"} {
		wantFault(t, "enum E { a } struct S { x: bool = ^"+text+"; } root S;", api.ErrValue)
	}
	for _, text := range []string{"0", "1", "-1", "E", "A", "c", "x", "S", strings.Repeat("a", 4000)} {
		wantFault(t, "enum F { c } enum E { a, b } struct S { x: E = ^"+text+"; } root S;", api.ErrValue)
	}
	wantFault(t, "enum E { a, b } struct S { x: list<E> = ^a; } root S;", api.ErrValue)
	for _, kind := range []string{"text", "data", "S", "list<S>", "list<text>", "list<list<list<data>>>"} {
		for _, text := range []string{"0", "1", "a", "true", "S", "null"} {
			wantFault(t, "struct S { x: "+kind+" = ^"+text+"; } root S;", api.ErrValue)
		}
	}
}

// P5.1
func TestRoots(t *testing.T) {
	wantFault(t, "^", api.ErrRoot)
	wantFault(t, "^struct S { x: u8; }", api.ErrRoot)
	wantFault(t, "^  enum E { a }", api.ErrRoot) // at 0, not at the first token
	wantFault(t, "root ^S;", api.ErrRoot)
	wantFault(t, "struct S { x: u8; } root ^T;", api.ErrRoot)
	wantFault(t, "enum E { a } struct S { x: u8; } root ^E;", api.ErrRoot)
	wantFault(t, "struct S { x: u8; } root ^u8;", api.ErrRoot)
	wantFault(t, "struct S { x: u8; } root ^list;", api.ErrRoot)
	wantFault(t, "struct S { x: u8; } root ^x;", api.ErrRoot)
	wantFault(t, "struct S { x: u8; } root S; root ^S;", api.ErrTwice)
	wantFault(t, "root S; struct S { x: u8; } root ^T; root U;", api.ErrTwice)
	wantFault(t, "root T; root ^U;", api.ErrTwice) // ahead of a first one that isn't there
}

// P5.1: each fault ahead of all that come later in the chapter, wherever they stand in the text.
func TestFaultsComeInTheirOrder(t *testing.T) {
	wantFault(t, "root T; struct S { x: T; } struct S { } enum E { a } enum ^E { a, a }", api.ErrTwice)
	wantFault(t, "root T; struct S { x: T; } struct S { } enum ^E { } enum F { a, a }", api.ErrMany)
	wantFault(t, "root T; struct S { x: T; } struct S { } enum F { a, ^a } enum E { }", api.ErrTwice)
	wantFault(t, "root T; struct S { x: T; } struct ^S { }", api.ErrTwice)
	wantFault(t, "root T; struct S { x: T; } struct ^R { } struct S { x: u8; }", api.ErrMany)
	wantFault(t, "root T; struct S { x: T; ^x: u8; } struct R { }", api.ErrTwice)
	wantFault(t, "root T; struct S { x: ^T; y: u8 = 256; } struct R { x: U; }", api.ErrType)
	wantFault(t, "root T; struct S { x: u8 = ^256; y: T; } struct R { x: U; }", api.ErrValue)
	wantFault(t, "root T; struct S { x: u8; } struct R { x: ^U; } root S;", api.ErrType)
}

// P5.2
func TestReadAnswersParsesFault(t *testing.T) {
	wantFault(t, "struct S { x: u8 ^} root S;", api.ErrParse)
	wantFault(t, "struct S { x: u8 = ^007; } root S;", api.ErrToken)
	wantFault(t, "struct ^"+strings.Repeat("S", 41)+" { x: u8; } root S;", api.ErrName)
	wantFault(t, "struct S { x: list<list<list<^list<T>>>>; } root S;", api.ErrMany)
	wantFault(t, strings.Repeat(" ", api.MaxSchema)+"^;", api.ErrMany)
	wantFault(t, "struct S { } struct S { x: T; } ^;", api.ErrParse) // ahead of what it would mean
	wantFine(t, "struct "+strings.Repeat("S", 40)+" { "+strings.Repeat("x", 40)+": u8; \""+strings.Repeat("é", 20)+"\": u8; } root "+strings.Repeat("S", 40)+";")
}

// P5.2
func TestReadIsMakeOfWhatIsWritten(t *testing.T) {
	for _, text := range []string{
		"enum E { a, b } struct S { x: E = b; } root S;", "struct S { x: u8 = 256; } root S;", "struct S { x: u8; }", "",
	} {
		r, _ := idl.Parse(text)
		s, f := schema.Make(r)
		again, fault := schema.Read(text)
		if f != fault || !reflect.DeepEqual(s, again) {
			t.Errorf("%q: Make %v %v, Read %v %v", text, s, f, again, fault)
		}
	}
}

// P5.1: what stands behind = is asked for its kind too.
func TestMakeAsksForATokensKind(t *testing.T) {
	for _, x := range []struct {
		kind string
		def  api.Token
		ok   bool
	}{
		{"bool", api.Token{Kind: api.TName, Text: "true", At: 5}, true},
		{"bool", api.Token{Kind: api.TQuoted, Text: "true", At: 5}, false},
		{"u8", api.Token{Kind: api.TNumber, Text: "1", At: 5}, true},
		{"u8", api.Token{Kind: api.TName, Text: "1", At: 5}, false},
		{"u8", api.Token{Kind: api.TNumber, Text: "", At: 5}, false},
		{"E", api.Token{Kind: api.TName, Text: "a", At: 5}, true},
		{"E", api.Token{Kind: api.TSign, Text: "a", At: 5}, false},
		{"E", api.Token{}, true},
		{"text", api.Token{}, true},
		{"text", api.Token{Kind: api.TQuoted, Text: "a", At: 5}, false},
		{"data", api.Token{Kind: api.TNumber, Text: "1", At: 5}, false},
	} {
		r := api.Raw{
			Structs: []api.RawRecord{{Name: "S", Fields: []api.RawField{{Name: "x", Type: api.RawType{Name: x.kind}, Def: x.def}}}},
			Enums:   []api.RawChoice{{Name: "E", Names: []api.Token{{Kind: api.TName, Text: "a"}}}},
			Roots:   []api.Token{{Kind: api.TName, Text: "S"}},
		}
		want := api.Fault{}
		if !x.ok {
			want = api.Fault{Code: api.ErrValue, At: 5}
		}
		if _, f := schema.Make(r); f != want {
			t.Errorf("%s = %v: %v", x.kind, x.def, f)
		}
	}
}

// R6: what is handed in isn't changed, and no two answers share a list.
func TestMakeAnswersNewMemory(t *testing.T) {
	const text = "enum E { a, b } struct S { x: E; y: u8; } struct T { x: u8; } root S;"
	r, _ := idl.Parse(text)
	s, _ := schema.Make(r)
	s.Enums[0].Names[0], s.Structs[0].Fields[1].Name, s.Structs[1].Name, s.Enums[0].Name = "q", "q", "q", "q"
	s.Structs[0].Fields = append(s.Structs[0].Fields, api.Field{Name: "more"})
	if untouched, _ := idl.Parse(text); !reflect.DeepEqual(r, untouched) {
		t.Errorf("changed: %v", r)
	}
	again, _ := schema.Make(r)
	want, _ := schema.Read(text)
	if !reflect.DeepEqual(again, want) {
		t.Errorf("made again: %v, want %v", again, want)
	}
	r.Enums[0].Names[0].Text, r.Structs[0].Fields[0].Name = "q", "q"
	if !reflect.DeepEqual(again, want) {
		t.Error("an answer hangs on what was handed in")
	}
}
