package idl_test

import (
	"reflect"
	"strconv"
	"strings"
	"testing"

	"transom/api"
	"transom/idl"
)

// tokenTold writes a token down: a letter for its kind, its text, and its place.
func tokenTold(t api.Token) string {
	kinds := map[api.TokenKind]string{api.TName: "n", api.TNumber: "d", api.TQuoted: "q", api.TSign: "s"}
	if t == (api.Token{}) {
		return "-"
	}
	return kinds[t.Kind] + "(" + t.Text + ")" + strconv.Itoa(t.At)
}

// fieldTold writes a field down: its label, its type and its default, each with its place.
func fieldTold(f api.RawField) string {
	t := f.Type.Name + "*" + strconv.Itoa(f.Type.Lists) + "@" + strconv.Itoa(f.Type.At)
	return f.Name + "@" + strconv.Itoa(f.At) + ":" + t + "=" + tokenTold(f.Def)
}

// told writes a schema down: structs, then enums, then roots.
func told(r api.Raw) string {
	var all []string
	for _, s := range r.Structs {
		one := []string{"struct", s.Name + "@" + strconv.Itoa(s.At)}
		for _, f := range s.Fields {
			one = append(one, fieldTold(f))
		}
		all = append(all, strings.Join(one, " "))
	}
	for _, e := range r.Enums {
		one := []string{"enum", e.Name + "@" + strconv.Itoa(e.At)}
		for _, n := range e.Names {
			one = append(one, tokenTold(n))
		}
		all = append(all, strings.Join(one, " "))
	}
	for _, t := range r.Roots {
		all = append(all, "root "+tokenTold(t))
	}
	return strings.Join(all, "; ")
}

// wantRaw checks that a text says just this.
func wantRaw(t *testing.T, text, want string) {
	t.Helper()
	r, f := idl.Parse(text)
	if f != (api.Fault{}) {
		t.Errorf("%.60q: fault %v, want %s", text, f, want)
		return
	}
	if got := told(r); got != want {
		t.Errorf("%.60q: %s, want %s", text, got, want)
	}
}

// wantFault checks that a text has just this fault, and says nothing beside it.
func wantFault(t *testing.T, text string, code api.Errno, at int) {
	t.Helper()
	r, f := idl.Parse(text)
	if f != (api.Fault{Code: code, At: at}) {
		t.Errorf("%.60q: fault %v, want %d at %d", text, f, code, at)
	}
	if told(r) != "" {
		t.Errorf("%.60q: %s beside a fault", text, told(r))
	}
}

// wantFaultAt checks the fault at the place of the one ^ in a text, which isn't part of it.
func wantFaultAt(t *testing.T, marked string, code api.Errno) {
	t.Helper()
	before, behind, ok := strings.Cut(marked, "^")
	if !ok {
		t.Fatalf("no place in %q", marked)
	}
	wantFault(t, before+behind, code, len(before))
}

func most() string { return strings.Repeat("n", api.MaxName) }

// P4.1
func TestParseTheExamples(t *testing.T) {
	wantRaw(t, `struct A { x: list<u8>; "é": B = c; } root A;`, "struct A@7 x@11:u8*1@14=- é@24:B*0@30=n(c)34; root n(A)44")
	wantFault(t, "struct A { x }", api.ErrParse, 13)
	wantFault(t, "struct A { x: list<list<list<list<u8>>>>; }", api.ErrMany, 29)
}

// P4.1
func TestParseATextThatSaysNothing(t *testing.T) {
	for _, text := range []string{"", " ", "\n\t\r", "// struct A", "// a\n"} {
		wantRaw(t, text, "")
	}
}

// P4.1
func TestParsePutsEachInItsOrder(t *testing.T) {
	wantRaw(t, "root C; enum F { f } struct B { } root A; struct A { } enum E { e }",
		"struct B@28; struct A@49; enum F@13 n(f)17; enum E@60 n(e)64; root n(C)5; root n(A)39")
	wantRaw(t, "struct S{b:u8;a:i8;b:u16;}", "struct S@7 b@9:u8*0@11=- a@14:i8*0@16=- b@19:u16*0@21=-")
	wantRaw(t, "enum E{b,a,b}", "enum E@5 n(b)7 n(a)9 n(b)11")
}

// P4.1
func TestParseGoesOverBlanksAndRemarks(t *testing.T) {
	wantRaw(t, "// one\nstruct // two\n A{ // }\n\tx\r:\nlist <\nu8 > = // three\n 5 ; }root//\nA;//",
		"struct A@22 x@31:u8*1@35=d(5)59; root n(A)71")
}

// P4.1: what a schema may mean is asked in layer 5.
func TestParseTakesWhatMeansNothing(t *testing.T) {
	wantRaw(t, "struct u8 { } struct u8 { }", "struct u8@7; struct u8@21")
	wantRaw(t, "enum bool { }", "enum bool@5")
	wantRaw(t, "enum E { a, a }", "enum E@5 n(a)9 n(a)12")
	wantRaw(t, "struct S { x: T = 1; x: bool = 2; x: text = a; }", "struct S@7 x@11:T*0@14=d(1)18 x@21:bool*0@24=d(2)31 x@34:text*0@37=n(a)44")
	wantRaw(t, "root A; root A;", "root n(A)5; root n(A)13")
	if r, f := idl.Parse(strings.Repeat("struct A { } ", 50) + strings.Repeat("enum E { a } ", 50)); f != (api.Fault{}) || len(r.Structs) != 50 || len(r.Enums) != 50 {
		t.Errorf("50 structs, 50 enums: %d, %d, %v", len(r.Structs), len(r.Enums), f)
	}
	if r, f := idl.Parse("struct A { " + strings.Repeat("x: u8; ", 50) + "} enum E { " + strings.Repeat("a, ", 50) + "}"); f != (api.Fault{}) || len(r.Structs[0].Fields) != 50 || len(r.Enums[0].Names) != 50 {
		t.Errorf("50 fields, 50 values: %v, %v", r, f)
	}
}

// P4.1
func TestParseTakesWordsAsNames(t *testing.T) {
	wantRaw(t, "struct struct { struct: struct; enum: enum = enum; root: root = struct; list: list<root> = list; }",
		"struct struct@7 struct@16:struct*0@24=- enum@32:enum*0@38=n(enum)45 root@51:root*0@57=n(struct)64 list@72:root*1@78=n(list)91")
	wantRaw(t, "struct enum { } struct root { } struct list { }", "struct enum@7; struct root@23; struct list@39")
	wantRaw(t, "enum struct { struct, enum, root, list } enum enum { } enum root { } enum list { }",
		"enum struct@5 n(struct)14 n(enum)22 n(root)28 n(list)34; enum enum@46; enum root@60; enum list@74")
	wantRaw(t, "root struct; root enum; root root; root list;", "root n(struct)5; root n(enum)18; root n(root)29; root n(list)40")
	wantRaw(t, "struct S { x: lists; y: List; }", "struct S@7 x@11:lists*0@14=- y@21:List*0@24=-")
	wantFaultAt(t, "^Struct A { }", api.ErrParse)
	wantFaultAt(t, "^structs A { }", api.ErrParse)
	wantFaultAt(t, "^list A;", api.ErrParse)
	wantFaultAt(t, `^"struct" A { }`, api.ErrParse)
	wantFaultAt(t, `^"root" A;`, api.ErrParse)
	wantFaultAt(t, "struct S { x: list^; }", api.ErrParse)
	wantFaultAt(t, `struct S { x: ^"list"<u8>; }`, api.ErrParse)
}

// P4.1
func TestParseLists(t *testing.T) {
	wantRaw(t, "struct S { a: u8; b: list<u8>; c: list<list<u8>>; d: list<list<list<u8>>>; }",
		"struct S@7 a@11:u8*0@14=- b@18:u8*1@21=- c@31:u8*2@34=- d@50:u8*3@53=-")
	wantRaw(t, "struct S{x:list<list<list<S>>>=q;}", "struct S@7 x@9:S*3@11=n(q)31")
	for _, behind := range []string{"", ";", "<", "<u8", "<u8>>>>;}", ">", " 5", "<list", "<list<u8"} {
		wantFaultAt(t, "struct S{x:list<list<list<^list"+behind, api.ErrMany)
	}
	for _, wrong := range []string{
		"list^", "list^;", "list^>", "list ^u8", "list<^", "list<^>", "list<^;", "list<^<", "list<^5", "list<^}", `list<^"u8"`,
		"list<u8^", "list<u8^;", "list<u8^<", "list<u8^=", "list<u8^,u8>", "list<u8>^>", "list<u8>^u8",
		"list<list<u8>^;", "list<list<u8^;", "list<list<list<u8>>^;", "list<list<list<u8>>>^>", "list<list^>", "list<list<list^;", "u8^<", "u8^>", "^<u8>", "^>", "list ^list<u8>",
	} {
		wantFaultAt(t, "struct S { x: "+wrong, api.ErrParse)
	}
}

// P4.1
func TestParseDefaults(t *testing.T) {
	for def, want := range map[string]string{
		"0": "d(0)", "-1": "d(-1)", "255": "d(255)", "99999999999999999999": "d(99999999999999999999)", "-99999999999999999999": "d(-99999999999999999999)",
		"a": "n(a)", "true": "n(true)", "_": "n(_)", "list": "n(list)", "struct": "n(struct)",
	} {
		wantRaw(t, "struct S { x: u8 = "+def+"; }", "struct S@7 x@11:u8*0@14="+want+"19")
	}
	wantRaw(t, "struct S{x:u8=1;y:u8;}", "struct S@7 x@9:u8*0@11=d(1)14 y@16:u8*0@18=-")
	for _, wrong := range []string{"^;", `^"a";`, `^"";`, "^=1;", "^{};", "^", "1 ^2;", "1 ^-2;", "a ^b;", "a ^5;", "1 ^a;", "a^,b;", "1^}", "1^=2;", "1^"} {
		wantFaultAt(t, "struct S { x: u8 = "+wrong, api.ErrParse)
	}
}

// P4.1: the name behind = may have any length.
func TestParseDefaultOfAnyLength(t *testing.T) {
	for _, n := range []int{api.MaxName, api.MaxName + 1, 1000, api.MaxSchema - 16} {
		long := strings.Repeat("n", n)
		wantRaw(t, "struct S{x:u8="+long+";}", "struct S@7 x@9:u8*0@11=n("+long+")14")
	}
}

// P4.1
func TestParseNamesAndLabelsOfTheMostBytes(t *testing.T) {
	n := most()
	wantRaw(t, "struct "+n+"{}", "struct "+n+"@7")
	wantRaw(t, "enum "+n+"{"+n+","+n+"}", "enum "+n+"@5 n("+n+")46 n("+n+")87")
	wantRaw(t, "root "+n+";", "root n("+n+")5")
	wantRaw(t, "struct S{"+n+":"+n+";}", "struct S@7 "+n+"@9:"+n+"*0@50=-")
	wantRaw(t, `struct S{"`+n+`":list<`+n+">;}", "struct S@7 "+n+"@9:"+n+"*1@52=-")
	wantRaw(t, `struct S{"x":u8;" ":u8;"//":u8;}`, "struct S@7 x@9:u8*0@13=-  @16:u8*0@20=- //@23:u8*0@28=-")
	e := strings.Repeat("é", api.MaxName/2)
	wantRaw(t, `struct S{"`+e+`":u8;}`, "struct S@7 "+e+"@9:u8*0@52=-")
}

// P4.1
func TestParseRefusesNamesAndLabelsThatAreTooLong(t *testing.T) {
	for _, long := range []string{most() + "n", strings.Repeat("_", 1000)} {
		for _, wrong := range []string{
			"struct ^%{}", "struct ^%", "struct ^% 5", "enum ^%{}", "enum E{^%}", "enum E{a,^%}", "enum E{a,b,^%,", "root ^%;", "root ^%",
			"struct S{^%:u8;}", "struct S{^%", "struct S{a:u8;^%:u8;}", `struct S{^"%":u8;}`, `struct S{^"%"`, "struct S{a:^%;}", "struct S{a:^%",
			"struct S{a:list<^%>;}", "struct S{a:list<list<list<^%>>>;}", "root A; root ^%;",
		} {
			wantFaultAt(t, strings.ReplaceAll(wrong, "%", long), api.ErrName)
		}
		for _, wrong := range []string{ // here no name is wanted
			"^%", "root A; ^%", "struct S ^%", "struct S{a ^%", "struct S{a:u8 ^%", "struct S{a:list ^%", "struct S{a:u8=1 ^%", "enum E ^%", "enum E{a ^%", "root A ^%",
		} {
			wantFaultAt(t, strings.ReplaceAll(wrong, "%", long), api.ErrParse)
		}
	}
	wantFaultAt(t, `struct S{^"`+strings.Repeat("é", api.MaxName/2)+`a":u8;}`, api.ErrName) // 41 bytes
	wantFaultAt(t, `struct S{^"`+strings.Repeat("é", api.MaxName)+`":u8;}`, api.ErrName)    // 40 signs, 80 bytes
}

// P4.1
func TestParseRefusesEmptyLabels(t *testing.T) {
	wantFaultAt(t, `struct S{^"":u8;}`, api.ErrName)
	wantFaultAt(t, `struct S{^""`, api.ErrName)
	wantFaultAt(t, `struct S{a:u8;^"":u8;}`, api.ErrName)
}

// P4.1
func TestParseRefusesQuotedTextsForNames(t *testing.T) {
	for _, inner := range []string{"", "A", most() + "n"} {
		for _, wrong := range []string{"struct ^%{}", "enum ^%{}", "enum E{^%}", "enum E{a,^%}", "root ^%;", "struct S{a:^%;}", "struct S{a:list<^%>;}", "struct S{a:u8=^%;}", "^%"} {
			wantFaultAt(t, strings.ReplaceAll(wrong, "%", `"`+inner+`"`), api.ErrParse)
		}
	}
}

// P4.1
func TestParseRefusesOtherTokensInTexts(t *testing.T) {
	for _, wrong := range []string{
		"^5", "^;", "^{", "^}", "^A", "^a struct A {}", "root A;^;", "struct A { }^;", "enum E { }^;", "struct A { }^}", "root A; ^5", "enum E { } ^E",
		"root^", "root^;", "root ^5;", "root ^-5;", "root ^{", "root A^", "root A^,B;", "root A^:", "root A ^B;", "root A^}", "root A  ^",
	} {
		wantFaultAt(t, wrong, api.ErrParse)
	}
}

// P4.1
func TestParseRefusesOtherTokensInStructs(t *testing.T) {
	for _, wrong := range []string{
		"struct^", "struct ^{ }", "struct ^5 { }", "struct ^; { }", "struct A^", "struct A^;", "struct A^}", "struct A ^B", "struct A ^\"B\"", "struct A ^5",
		"struct A {^", "struct A {^;", "struct A {^,", "struct A {^:", "struct A {^5", "struct A {^{", "struct A {^<", "struct A {^=",
		"struct A { x^", "struct A { x^;", "struct A { x^=1", "struct A { x ^u8", "struct A { x^,", "struct A { x^}", "struct A { x ^5", "struct A { \"x\"^;", "struct A { \"x\"^\"y\"",
		"struct A { x:^", "struct A { x:^;", "struct A { x:^:", "struct A { x:^=", "struct A { x:^5", "struct A { x:^}", "struct A { x:^,", "struct A { x:^>",
		"struct A { x: u8^", "struct A { x: u8^}", "struct A { x: u8^,", "struct A { x: u8^:", "struct A { x: u8 ^u8", "struct A { x: u8 ^5", "struct A { x: u8^{", "struct A { x: u8^\"y\"",
		"struct A { x: u8;^", "struct A { x: u8;^;", "struct A { x: u8;^,", "struct A { x: u8; y^}", "struct A { x: u8 = 1; y^;", "struct A { x: u8; } ^x: u8;",
	} {
		wantFaultAt(t, wrong, api.ErrParse)
	}
}

// P4.1
func TestParseEnumsAndTheirCommas(t *testing.T) {
	wantRaw(t, "enum E { }", "enum E@5")
	wantRaw(t, "enum E { a }", "enum E@5 n(a)9")
	wantRaw(t, "enum E { a, }", "enum E@5 n(a)9")
	wantRaw(t, "enum E { a, b }", "enum E@5 n(a)9 n(b)12")
	wantRaw(t, "enum E { a, b, }", "enum E@5 n(a)9 n(b)12")
	for _, wrong := range []string{
		"enum^", "enum ^{ }", "enum ^5 { }", "enum ^, { }", "enum E^", "enum E^;", "enum E^}", "enum E^,", "enum E ^a", "enum E ^5",
		"enum E {^", "enum E {^,", "enum E {^,}", "enum E {^;", "enum E {^5", "enum E {^{", "enum E {^=",
		"enum E { a^", "enum E { a^;", "enum E { a ^b", "enum E { a^=1", "enum E { a ^5", "enum E { a^:", "enum E { a^{", "enum E { a ^\"b\"",
		"enum E { a,^", "enum E { a,^,", "enum E { a,^;", "enum E { a,^5", "enum E { a,^=", "enum E { a, b^", "enum E { a, b^;", "enum E { a, b ^c", "enum E { a, b,^,", "enum E { a, }^,",
	} {
		wantFaultAt(t, wrong, api.ErrParse)
	}
}

// P4.1: what lex.Tokens refuses is told first, however late it stands.
func TestParseAnswersTheFaultOfTheTokensFirst(t *testing.T) {
	for _, wrong := range []string{"^(", "^.", "^-", "^-a", "^/", "^[", "^007", "^-0", "^5a", "^123456789012345678901", `^"`, `^"a`, `^"\n"`, "^\"\xff\"", "^\x00", "^é"} {
		wantFaultAt(t, wrong, api.ErrToken)
		wantFaultAt(t, "} 5 struct "+wrong, api.ErrToken)
		wantFaultAt(t, "struct A { x: list<list<list<list "+wrong, api.ErrToken)
		wantFaultAt(t, "root "+most()+"n "+wrong, api.ErrToken)
	}
}

// P4.1
func TestParseOfTheLongestText(t *testing.T) {
	blanks := strings.Repeat(" ", api.MaxSchema-7)
	wantRaw(t, blanks+"root A;", "root n(A)8190")
	wantFault(t, blanks+" root A;", api.ErrMany, api.MaxSchema)
	wantFault(t, strings.Repeat("}", api.MaxSchema+1), api.ErrMany, api.MaxSchema) // ahead of ErrParse at 0
	wantFault(t, blanks+"root A ", api.ErrParse, api.MaxSchema)
	wantFault(t, strings.Repeat("/", api.MaxSchema), api.OK, 0)
}

// P4.1
func TestParseOfTheMostTokens(t *testing.T) {
	r, f := idl.Parse("enum E{" + strings.Repeat("a,", 1021) + "a}") // 3 + 2042 + 2 tokens, and the end
	if f != (api.Fault{}) || len(r.Enums) != 1 || len(r.Enums[0].Names) != 1022 {
		t.Errorf("2048 tokens: %d enums, %v", len(r.Enums), f)
	}
	wantFault(t, "enum E{"+strings.Repeat("a,", 1021)+"a,}", api.ErrMany, 2052) // the end would be the 2049th
	wantFault(t, strings.Repeat("{", api.MaxTokens), api.ErrMany, api.MaxTokens)
	wantFault(t, strings.Repeat("{", api.MaxTokens-1), api.ErrParse, 0)
}

// R3
func TestParseAnswersZeroValuesBesideAFault(t *testing.T) {
	for _, text := range []string{"struct A { x: u8; y }", "enum E { a, 5 }", "root A; root", "struct A { } enum E { a } root A; {", "struct A { x: list<u8; }", "struct A { x: u8 = ; }"} {
		r, f := idl.Parse(text)
		if f.Code != api.ErrParse || !reflect.DeepEqual(r, api.Raw{}) {
			t.Errorf("%q: %+v, %v", text, r, f)
		}
	}
}

// R6, R8: each call answers lists of its own, and no two of its lists share any.
func TestParseAnswersAreNew(t *testing.T) {
	const text = "struct A { x: u8 = 1; y: u8; } struct B { z: u8; } enum E { a, b } enum F { c } root A; root B;"
	const want = "struct A@7 x@11:u8*0@14=d(1)19 y@22:u8*0@25=-; struct B@38 z@42:u8*0@45=-; enum E@56 n(a)60 n(b)63; enum F@72 n(c)76; root n(A)85; root n(B)93"
	r, _ := idl.Parse(text)
	for i := range r.Structs {
		r.Structs[i].Fields = append(r.Structs[i].Fields, api.RawField{Name: "more"})
	}
	for i := range r.Enums {
		r.Enums[i].Names = append(r.Enums[i].Names, api.Token{Text: "more"})
	}
	if r.Structs[1].Fields[0].Name != "z" || r.Enums[1].Names[0].Text != "c" {
		t.Errorf("lists that share: %s", told(r))
	}
	r.Structs[0].Fields[0].Name, r.Enums[0].Names[0].Text, r.Roots[0].Text = "other", "other", "other"
	wantRaw(t, text, want)
}

// P1
func TestParseEndsAtAllTexts(t *testing.T) {
	const right = `root A; struct A { x: list<u8> = -1; "é": E; } // b` + "\n" + `enum E { a, b, }`
	check := func(text string) {
		t.Helper()
		r, f := idl.Parse(text)
		if f == (api.Fault{}) {
			return
		}
		if f.Code != api.ErrToken && f.Code != api.ErrParse && f.Code != api.ErrName || f.At < 0 || f.At > len(text) || told(r) != "" {
			t.Errorf("%q: %v beside %s", text, f, told(r))
		}
	}
	for i := range len(right) {
		check(right[:i])
		check(right[i:])
		for c := range 256 {
			check(right[:i] + string([]byte{byte(c)}) + right[i+1:])
		}
	}
}
