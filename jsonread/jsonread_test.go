package jsonread_test

import (
	"slices"
	"strconv"
	"strings"
	"testing"

	"transom/api"
	"transom/jsonread"
	"transom/schema"
	"transom/view"
	"transom/wire"
)

// plenty: more than any message here may want.
const plenty = 1 << 30

// small: the chapter's schema.
const small = `struct S { x: u8 = 3; t: text; } root S;`

// read: a text's schema.
func read(t *testing.T, text string) api.Schema {
	t.Helper()
	s, fault := schema.Read(text)
	if fault != (api.Fault{}) {
		t.Fatalf("%s: %v", text, fault)
	}
	return s
}

// field: a schema whose root has one field, x, of what the text says. It may be a number of an enum, or a struct.
func field(t *testing.T, text string) api.Schema {
	t.Helper()
	return read(t, `enum E { a, b, Cd } enum F { f } struct T { y: u8 = 5; z: text; } struct S { x: `+text+`; } root S;`)
}

// Values are written by these.
func num(n int) api.Val               { return api.Val{Num: uint64(n)} }
func raw(text string) api.Val         { return api.Val{Bytes: []byte(text)} }
func many(kids ...api.Val) api.Val    { return api.Val{Kids: kids} }
func there(fields ...api.Val) api.Val { return api.Val{Has: true, Kids: fields} }

// none: a struct that isn't there, or an empty list.
var none api.Val

// same: are they one value? Nil is as good as empty.
func same(a, b api.Val) bool {
	if a.Num != b.Num || a.Has != b.Has || string(a.Bytes) != string(b.Bytes) || len(a.Kids) != len(b.Kids) {
		return false
	}
	for i := range a.Kids {
		if !same(a.Kids[i], b.Kids[i]) {
			return false
		}
	}
	return true
}

// wantValue checks that a text denotes a value, and that Read leaves it as it is.
func wantValue(t *testing.T, s api.Schema, text string, want api.Val) {
	t.Helper()
	b := []byte(text)
	x, e := jsonread.Read(s, b, wire.New(plenty))
	if e != api.OK {
		t.Errorf("%.200s: error %d", text, e)
		return
	}
	if got := view.Tree(s, s.Root, x); !same(got, want) {
		t.Errorf("%.200s: read as %.200v, not %.200v", text, got, want)
	}
	if !view.Fits(s, s.Root, want) {
		t.Errorf("%.200s: %.200v doesn't fit", text, want)
	}
	if string(b) != text {
		t.Errorf("%.200s: the text was changed", text)
	}
}

// wantNone checks that a text denotes nothing.
func wantNone(t *testing.T, s api.Schema, text string) {
	t.Helper()
	if x, e := jsonread.Read(s, []byte(text), wire.New(plenty)); e != api.ErrMalformed || x != nil {
		t.Errorf("%.200s: error %d, %v", text, e, x)
	}
}

// wantEither checks one or the other.
func wantEither(t *testing.T, s api.Schema, text string, ok bool, want api.Val) {
	t.Helper()
	if ok {
		wantValue(t, s, text, want)
	} else {
		wantNone(t, s, text)
	}
}

// wantField checks what a text denotes of a struct with one field, x, alone and among elements.
func wantField(t *testing.T, kind, text string, want api.Val) {
	t.Helper()
	wantValue(t, field(t, kind), `{"x":`+text+`}`, there(want))
	wantValue(t, field(t, "list<"+kind+">"), `{"x":[`+text+`]}`, there(many(want)))
	wantValue(t, field(t, "list<"+kind+">"), `{"x":[`+text+`,`+text+`,`+text+`]}`, there(many(want, want, want)))
	wantValue(t, field(t, "list<list<"+kind+">>"), `{"x":[[],[`+text+`,`+text+`]]}`, there(many(none, many(want, want))))
}

// wantNoField checks that a text is no value of such a field, and no element.
func wantNoField(t *testing.T, kind, text string) {
	t.Helper()
	good := aValue(t, kind)
	wantNone(t, field(t, kind), `{"x":`+text+`}`)
	for _, elements := range []string{text, good + "," + text, text + "," + good, good + "," + text + "," + good} {
		if elements != "" {
			wantNone(t, field(t, "list<"+kind+">"), `{"x":[`+elements+`]}`)
		}
	}
}

// kinds: of fields, each with the text of some value.
var kinds = []struct{ kind, text string }{
	{"bool", "true"}, {"i8", "-7"}, {"i16", "-7"}, {"i32", "-7"}, {"i64", `"-7"`}, {"u8", "7"}, {"u16", "7"}, {"u32", "7"}, {"u64", `"7"`},
	{"E", `"b"`}, {"F", `"f"`}, {"text", `"hi"`}, {"data", `"0a"`}, {"T", `{"y":7}`}, {"list<u8>", "[7]"}, {"list<list<text>>", `[["a"]]`}, {"list<T>", `[{}]`},
}

// aValue: some text of a kind.
func aValue(t *testing.T, kind string) string {
	t.Helper()
	for _, x := range kinds {
		if x.kind == kind {
			return x.text
		}
	}
	t.Fatal(kind)
	return ""
}

// P14.1: the chapter's examples.
func TestExamples(t *testing.T) {
	s := read(t, small)
	wantValue(t, s, `{"t":"a"}`, there(num(3), raw("a")))
	for _, text := range []string{`{"x":1,"x":1}`, `{"y":1}`, `{"x":256}`, `{"x":null}`} {
		wantNone(t, s, text)
	}
}

// P14.1: bools are words.
func TestBools(t *testing.T) {
	wantField(t, "bool", "true", num(1))
	wantField(t, "bool", "false", num(0))
	for _, text := range []string{"True", "TRUE", "tru", "truee", "t", "fals", "falsefalse", "true false", `"true"`, "0", "1", "null", "tr ue", "\ttrue-", "[true]", "{}", ""} {
		wantNoField(t, "bool", text)
	}
}

// P14.1: numbers of each kind, just within its bounds and one beyond; those of 64 bits in quotes, the others not.
func TestNumbers(t *testing.T) {
	for _, x := range []struct {
		kind        string
		least, most string
		below, over string
		first, last int
	}{
		{"i8", "-128", "127", "-129", "128", -128, 127},
		{"i16", "-32768", "32767", "-32769", "32768", -32768, 32767},
		{"i32", "-2147483648", "2147483647", "-2147483649", "2147483648", -1 << 31, 1<<31 - 1},
		{"i64", "-9223372036854775808", "9223372036854775807", "-9223372036854775809", "9223372036854775808", -1 << 63, 1<<63 - 1},
		{"u8", "0", "255", "-1", "256", 0, 255},
		{"u16", "0", "65535", "-1", "65536", 0, 65535},
		{"u32", "0", "4294967295", "-1", "4294967296", 0, 1<<32 - 1},
		{"u64", "0", "18446744073709551615", "-1", "18446744073709551616", 0, -1},
	} {
		right, wrong := strings.Clone, strconv.Quote
		if strings.HasSuffix(x.kind, "64") {
			right, wrong = wrong, right
		}
		for text, n := range map[string]int{x.least: x.first, x.most: x.last, "0": 0, "1": 1, "9": 9, "10": 10, "99": 99} {
			wantField(t, x.kind, right(text), num(n))
			wantNoField(t, x.kind, wrong(text))
		}
		for _, text := range []string{x.below, x.over, x.most + "0", "-" + x.most + "0", "-0", "00", "01", "-01", "007", "+1", "1.0", "1.", ".5", "1e1", "1E1", "1e+1", "0x1", "1_0", "1a", "- 1", "-", "--1", "١", "99999999999999999999999", "", "1 1"} {
			wantNoField(t, x.kind, right(text))
			wantNoField(t, x.kind, wrong(text))
		}
		for _, text := range []string{"null", "true", "[]", "[1]", "{}", "'1'", "NaN", "Infinity"} {
			wantNoField(t, x.kind, text)
		}
	}
	for n := -300; n <= 300; n++ {
		text := strconv.Itoa(n)
		wantEither(t, field(t, "i8"), `{"x":`+text+`}`, n >= -128 && n <= 127, there(num(n)))
		wantEither(t, field(t, "u8"), `{"x":`+text+`}`, n >= 0 && n <= 255, there(num(n)))
	}
}

// P14.1: what stands in quotes is the text of just a number, be it escaped or not.
func TestQuotedNumbers(t *testing.T) {
	for _, kind := range []string{"i64", "u64"} {
		wantField(t, kind, `"\u0031\u0032"`, num(12))
		wantField(t, kind, `"1\u0032"`, num(12))
		for _, text := range []string{`" 1"`, `"1 "`, `"1\n"`, `"\t1"`, `"1,2"`, `"\"1\""`, `""`, `"\u0661"`, `"1\u0000"`, `"//1"`, `"1`, `1"`} {
			wantNoField(t, kind, text)
		}
	}
	wantField(t, "i64", `"\u002d1"`, num(-1))
}

// P14.1: numbers of 64 bits whose lowest bits another reader might lose.
func TestAllBits(t *testing.T) {
	for i := range 64 {
		for _, n := range []uint64{1 << i, 1<<i - 1, 1<<i + 1, -(uint64(1) << i)} {
			wantValue(t, field(t, "u64"), `{"x":"`+strconv.FormatUint(n, 10)+`"}`, there(api.Val{Num: n}))
			wantValue(t, field(t, "i64"), `{"x":"`+strconv.FormatInt(int64(n), 10)+`"}`, there(api.Val{Num: n}))
		}
	}
}

// P14.1: an enum's value by its name, in quotes.
func TestEnums(t *testing.T) {
	wantField(t, "E", `"a"`, num(0))
	wantField(t, "E", `"b"`, num(1))
	wantField(t, "E", `"Cd"`, num(2))
	wantField(t, "E", `"\u0043d"`, num(2))
	wantField(t, "F", `"f"`, num(0))
	for _, text := range []string{`"c"`, `"A"`, `"cd"`, `"CD"`, `"C"`, `"Cde"`, `" a"`, `"a "`, `""`, `"f"`, `"E"`, `"E.a"`, "a", "0", `"0"`, "1", "null", "true", `["a"]`, `{"a":1}`, `"a`, `a"`} {
		wantNoField(t, "E", text)
	}
	wantNoField(t, "F", `"a"`)
	var l []string
	for i := range api.MaxNames {
		l = append(l, "n"+strconv.Itoa(i))
	}
	l[api.MaxNames-1] = strings.Repeat("z", api.MaxName)
	s := read(t, "enum E { "+strings.Join(l, ", ")+" } struct S { x: E = n5; } root S;")
	for i, name := range l {
		wantValue(t, s, `{"x":"`+name+`"}`, there(num(i)))
	}
	wantNone(t, s, `{"x":"n31"}`)
	wantNone(t, s, `{"x":"`+l[api.MaxNames-1]+`z"}`)
	wantValue(t, s, `{}`, there(num(5)))
}

// P14.1: texts, raw and escaped.
func TestTexts(t *testing.T) {
	for text, want := range map[string]string{
		`""`: "", `"a"`: "a", `" "`: " ", `"é€😀"`: "é€😀", `"\u00e9\u20AC\ud83d\uDE00"`: "é€😀", `"\"\\\/\b\f\n\r\t"`: "\"\\/\b\f\n\r\t", `"/"`: "/",
		`"\u0000"`: "\x00", "\"\x7f\"": "\x7f", `"null"`: "null", `"0a"`: "0a", `"{\"x\":1}"`: `{"x":1}`, `"//"`: "//", "\"\ufffd\"": "\ufffd", `"\ufffd"`: "\ufffd",
	} {
		wantField(t, "text", text, raw(want))
	}
	for _, text := range []string{"a", `'a'`, `"a`, `a"`, `"\x41"`, `"\u00e"`, `"\ud83d"`, `"\ude00"`, `"\ud83dA"`, `"\ude00\ud83d"`, "\"\n\"", "\"\t\"", "\"\x00\"", "\"\x1f\"", "\"\xff\"", "\"\xc3\"", "\"\xed\xa0\x80\"", "\"\xc0\x80\"", `"a""b"`, `"a"+"b"`, "null", "1", "true", "[]", `["a"]`, "{}"} {
		wantNoField(t, "text", text)
	}
}

// P14.1: data are digits of small letters, two a byte.
func TestData(t *testing.T) {
	for text, want := range map[string]string{`""`: "", `"00"`: "\x00", `"0aff"`: "\x0a\xff", `"0123456789abcdef"`: "\x01\x23\x45\x67\x89\xab\xcd\xef", `"\u0061\u0030"`: "\xa0", `"6\u0031"`: "a"} {
		wantField(t, "data", text, raw(want))
	}
	for _, text := range []string{`"0"`, `"0af"`, `"0A"`, `"A0"`, `"FF"`, `"0aFf"`, `"0g"`, `"g0"`, `"0 "`, `" 0a"`, `"0a "`, `"0a 0b"`, `"0x"`, `"é"`, `"-1"`, `"0a`, "0a", "10", "null", "[]", "[10]", `["0a"]`, "{}", "true"} {
		wantNoField(t, "data", text)
	}
	var digits strings.Builder
	var all []byte
	for c := range 256 {
		digits.WriteString(strconv.FormatInt(int64(0x100+c), 16)[1:])
		all = append(all, byte(c))
		wantField(t, "data", `"`+digits.String()+`"`, api.Val{Bytes: slices.Clone(all)})
		one := string(rune(c))
		if !strings.Contains("0123456789abcdef", one) && c >= ' ' && c != '"' && c != '\\' {
			wantNone(t, field(t, "data"), `{"x":"0`+one+`"}`)
			wantNone(t, field(t, "data"), `{"x":"`+one+`0"}`)
		}
	}
}

// P14.1: structs in fields and in lists: one that is there may say nothing; one that isn't there isn't said.
func TestStructs(t *testing.T) {
	said := there(num(5), raw(""))
	wantField(t, "T", `{}`, said)
	wantField(t, "T", `{"y":1}`, there(num(1), raw("")))
	wantField(t, "T", `{"z":"a","y":0}`, there(num(0), raw("a")))
	wantValue(t, field(t, "T"), `{}`, there(none))
	wantValue(t, field(t, "list<T>"), `{"x":[{},{"z":"b"},{}]}`, there(many(said, there(num(5), raw("b")), said)))
	for _, text := range []string{`{"x":1}`, `{"y":256}`, `{"y":1,"y":1}`, `{"z":1}`, "null", "[]", "[{}]", `""`, `"{}"`, "true", "0", "{", "}", "{{}}", "{,}", `{"y"}`, `{"y":}`, `{:1}`, `{"y":1,}`, `{,"y":1}`, `{"y":1 "z":"a"}`, `{"y":1,,"z":"a"}`, `{"y" 1}`, `{"y"::1}`, `{"y",1}`, `{y:1}`, `{'y':1}`, `{"y":1}}`, `{"y":1]`, `("y":1)`} {
		wantNoField(t, "T", text)
	}
}

// P14.1: lists, and lists in lists.
func TestLists(t *testing.T) {
	wantField(t, "list<u8>", "[]", none)
	wantField(t, "list<u8>", "[1]", many(num(1)))
	wantField(t, "list<u8>", "[1,2,3]", many(num(1), num(2), num(3)))
	s := field(t, "list<list<list<i16>>>")
	wantValue(t, s, `{"x":[]}`, there(none))
	wantValue(t, s, `{"x":[[]]}`, there(many(none)))
	wantValue(t, s, `{"x":[[[]]]}`, there(many(many(none))))
	wantValue(t, s, `{"x":[[[-1,2],[],[3]],[],[[]]]}`, there(many(many(many(num(-1), num(2)), none, many(num(3))), none, many(none))))
	for _, text := range []string{`{"x":[[[[]]]]}`, `{"x":[1]}`, `{"x":[[1]]}`, `{"x":1}`, `{"x":[[[1],2]]}`} {
		wantNone(t, s, text)
	}
	for _, text := range []string{"[", "]", "[1", "1]", "[,]", "[1,]", "[,1]", "[1,,2]", "[1 2]", "[1;2]", "[1:2]", "[[1]]", "[1]]", "[1}", "{1}", "(1)", "1", `"1"`, `["1"]`, "[null]", "null", "{}", `{"0":1}`, "[true]", "[256]", "[1.5]", "[1],", "[1][2]"} {
		wantNoField(t, "list<u8>", text)
	}
	var v api.Val
	var l []string
	for i := range 5000 {
		v.Kids = append(v.Kids, num(i%10))
		l = append(l, strconv.Itoa(i%10))
	}
	wantValue(t, field(t, "list<u8>"), `{"x":[`+strings.Join(l, ",")+`]}`, there(v))
}

// P14.1, P4: a value of a kind is one of no other kind, but where both say so.
func TestOtherKinds(t *testing.T) {
	small := []string{"i8", "i16", "i32", "u8", "u16", "u32"}
	for _, x := range kinds {
		for _, y := range kinds {
			is := x.kind == y.kind || y.kind == "text" && strings.HasPrefix(x.text, `"`) || slices.Contains(small, x.kind) && slices.Contains(small, y.kind) && (x.text == "7" || y.kind[0] == 'i') || x.kind == "u64" && y.kind == "i64"
			if !is {
				wantNoField(t, y.kind, x.text)
			} else if _, e := jsonread.Read(field(t, y.kind), []byte(`{"x":`+x.text+`}`), wire.New(plenty)); e != api.OK {
				t.Errorf("%s as %s: error %d", x.text, y.kind, e)
			}
		}
		wantNoField(t, x.kind, "null")
		wantNoField(t, x.kind, "")
		wantNoField(t, x.kind, "x")
		wantNoField(t, x.kind, x.text+" "+x.text)
	}
}

// several: a struct of fields of all sorts, their texts and what these say; and their defaults.
const several = `enum E { p, q } struct T { y: u8 = 5; } struct S { a: i16 = -4; "é/": text; c: list<u8>; d: T; e: E = q; f: data; } root S;`

var severalFields = []string{`"a":12`, `"é/":"hé"`, `"c":[1,2]`, `"d":{"y":9}`, `"e":"p"`, `"f":"00ff"`}

func severalValues() []api.Val {
	return []api.Val{num(12), raw("hé"), many(num(1), num(2)), there(num(9)), num(0), raw("\x00\xff")}
}

func severalDefaults() []api.Val { return []api.Val{num(-4), none, none, none, num(1), none} }

// orders: all orders of so many things.
func orders(n int) [][]int {
	if n == 0 {
		return [][]int{nil}
	}
	var l [][]int
	for _, o := range orders(n - 1) {
		for at := range n {
			l = append(l, slices.Insert(slices.Clone(o), at, n-1))
		}
	}
	return l
}

// P14.1: fields stand in any order, and any of them are left out.
func TestOrdersAndDefaults(t *testing.T) {
	s := read(t, several)
	count := 0
	for _, order := range orders(len(severalFields)) {
		for said := 1; said <= len(order); said++ {
			v := there(severalDefaults()...)
			var l []string
			for _, i := range order[:said] {
				l = append(l, severalFields[i])
				v.Kids[i] = severalValues()[i]
			}
			wantValue(t, s, "{"+strings.Join(l, ",")+"}", v)
			count++
		}
	}
	if count != 720*6 {
		t.Errorf("%d", count)
	}
	wantValue(t, s, "{}", there(severalDefaults()...))
	if !same(there(severalDefaults()...), view.Default(s.Structs[1])) {
		t.Error("the tests' own defaults")
	}
}

// P14.1: no name twice, wherever the two stand, be it the same value, and however they are written.
func TestTwice(t *testing.T) {
	s := read(t, several)
	for i, one := range severalFields {
		name, value, _ := strings.Cut(one, ":")
		r := []rune(name)
		escaped := `"\u` + strconv.FormatInt(0x10000+int64(r[1]), 16)[1:] + string(r[2:]) + ":" + value
		v := there(severalDefaults()...)
		v.Kids[i] = severalValues()[i]
		wantValue(t, s, "{"+escaped+"}", v)
		for at := 0; at <= len(severalFields); at++ {
			wantNone(t, s, "{"+strings.Join(slices.Insert(slices.Clone(severalFields), at, one), ",")+"}")
			wantNone(t, s, "{"+strings.Join(slices.Insert(slices.Clone(severalFields), at, escaped), ",")+"}")
		}
	}
	s = field(t, "list<T>")
	wantValue(t, s, `{"x":[{"y":1},{"y":1}]}`, there(many(there(num(1), none), there(num(1), none))))
	wantNone(t, s, `{"x":[{"y":1},{"y":1,"y":1}]}`)
	wantNone(t, s, `{"x":[],"x":[]}`)
	s = read(t, `struct S { s: S; x: u8; } root S;`)
	wantValue(t, s, `{"x":1,"s":{"x":1,"s":{"x":1}}}`, there(there(there(none, num(1)), num(1)), num(1)))
	wantNone(t, s, `{"x":1,"s":{"x":1,"s":{"x":1}},"x":1}`)
	wantNone(t, s, `{"x":1,"s":{"s":{"x":1},"s":{"x":1}}}`)
}

// P14.1: names are a field's, to the byte, of just that struct.
func TestNames(t *testing.T) {
	s := read(t, `struct T { y: u8; } struct S { x: u8; "a b": u8; "é": u8; "x.y": u8; "/": u8; "{": u8; d: T; _: u8; `+strings.Repeat("n", api.MaxName)+`: u8; } root S;`)
	v := func(at int) api.Val {
		x := view.Default(s.Structs[1])
		x.Kids[at].Num = 7
		return x
	}
	for name, at := range map[string]int{"x": 0, `\u0078`: 0, "a b": 1, `a\u0020b`: 1, "é": 2, `\u00e9`: 2, `\u00E9`: 2, "x.y": 3, "/": 4, `\/`: 4, `\u002f`: 4, "{": 5, "_": 7, strings.Repeat("n", api.MaxName): 8, strings.Repeat(`\u006e`, api.MaxName): 8} {
		wantValue(t, s, `{"`+name+`":7}`, v(at))
	}
	for _, name := range []string{"", "X", "xx", " x", "x ", "y", "d.y", "a  b", "ab", "a\\tb", "e\u0301", "É", "__", "0", "S", "T", "u8", strings.Repeat("n", api.MaxName-1), strings.Repeat("n", api.MaxName+1), `\x`, `x\`, "é\xff", `\ud83d`, "null", "__proto__"} {
		wantNone(t, s, `{"`+name+`":7}`)
		wantNone(t, s, `{"x":1,"`+name+`":7}`)
	}
	for _, text := range []string{`{x:7}`, `{'x':7}`, `{x":7}`, `{"x:7}`, `{1:7}`, `{"x"7}`, `{["x"]:7}`, `{null:7}`, `{"x":7:7}`, `{"x"=7}`, `{"x";7}`, `{"x",7}`, `{"d":{"x":7}}`, `{"d":{"y":7},"y":7}`} {
		wantNone(t, s, text)
	}
}

// P14.1: blanks between all pieces; no other bytes are blanks, and none stand within a piece.
func TestBlanks(t *testing.T) {
	s := read(t, several+`// and a remark`)
	pieces := []string{"{", `"a"`, ":", "-12", ",", `"é/"`, ":", `"h"`, ",", `"c"`, ":", "[", "1", ",", "22", "]", ",", `"d"`, ":", "{", `"y"`, ":", "9", "}", ",", `"e"`, ":", `"p"`, "}"}
	want := there(num(-12), raw("h"), many(num(1), num(22)), there(num(9)), num(0), raw(""))
	wantValue(t, s, strings.Join(pieces, ""), want)
	for _, gap := range []string{" ", "\t", "\n", "\r", " \t\r\n ", "\n\n", strings.Repeat(" ", 100)} {
		wantValue(t, s, strings.Join(pieces, gap), want)
		wantValue(t, s, gap+strings.Join(pieces, gap)+gap, want)
		for at := 0; at <= len(pieces); at++ {
			wantValue(t, s, strings.Join(slices.Insert(slices.Clone(pieces), at, gap), ""), want)
		}
	}
	for c := range 256 {
		one := string([]byte{byte(c)})
		if strings.Contains(" \t\n\r", one) {
			continue
		}
		for at := 0; at <= len(pieces); at++ {
			text := strings.Join(slices.Insert(slices.Clone(pieces), at, one), "")
			if v, ok := denoted(s, text); ok { // a digit beside a number
				wantValue(t, s, text, v)
			} else {
				wantNone(t, s, text)
			}
		}
	}
	for _, gap := range []string{"/**/", "//\n", "#\n", "\u00a0", "\u2003", "\u2028", "\ufeff", "\v", "\f", "\x00", "\x85"} {
		for at := 0; at <= len(pieces); at++ {
			wantNone(t, s, strings.Join(slices.Insert(slices.Clone(pieces), at, gap), ""))
		}
	}
	for _, text := range []string{`{"a":- 12}`, `{"a":1 2}`, `{"c":[1 1]}`, `{"e":"p "}`, `{"a ":1}`} {
		wantNone(t, s, text)
	}
}

// P14.1: nothing but blanks behind, and a struct ahead.
func TestWhole(t *testing.T) {
	s := read(t, small)
	want := there(num(1), raw("a"))
	const whole = `{"x":1,"t":"a"}`
	for _, blanks := range []string{"", " ", "\n", "\r\n\t  "} {
		wantValue(t, s, whole+blanks, want)
		wantValue(t, s, blanks+whole, want)
	}
	for _, behind := range []string{"{}", " {}", ",", "}", "]", "null", "0", `""`, "\x00", "\xff", ";", "//", " x", "\n.", whole} {
		wantNone(t, s, whole+behind)
		wantNone(t, s, behind+whole)
		wantNone(t, s, "{}"+behind)
	}
	for end := range len(whole) {
		wantNone(t, s, whole[:end])
		wantNone(t, s, whole[:end]+" ")
	}
	for _, text := range []string{"", " ", "\n", "null", "true", "1", `""`, "[]", "[{}]", "{", "}", "{}}", "{{}", "[}", "{]", "()", `"{}"`, "x", "\ufeff{}", "{}\x00"} {
		wantNone(t, s, text)
	}
}

// P14.1: a text of all kinds, cut at each byte, or with a byte less, or one more, or another one: what it denotes, if anything, is what the chapter says.
func TestEachByte(t *testing.T) {
	s := read(t, `enum E { a, b } struct T { x: i8 = -1; t: text; } struct S { e: E = b; b: bool; d: data; s: T; n: list<i16>; r: list<T>; l: list<list<u8>>; w: i64; v: u64 = 9; } root S;`)
	const whole = ` {"e":"a","b": true,"d":"0aff","s":{"x":-12,"t":"\u00e9\n\ud83d\ude00é"},"n":[0,-1,32767],"r":[{},{"t":"\"","x":127}],"l":[[],[255,1]],"w":"-9223372036854775808" }`
	check := func(text string) bool {
		v, ok := denoted(s, text)
		wantEither(t, s, text, ok, v)
		return ok
	}
	if !check(whole) {
		t.Fatal("the whole")
	}
	for at := range len(whole) {
		if check(whole[:at]) {
			t.Errorf("cut at %d: it denotes something", at)
		}
		if check(whole[at:]) != (at < 2) {
			t.Errorf("from %d on: it denotes something", at)
		}
		check(whole[:at] + whole[at+1:])
	}
	right := 0
	for at := range len(whole) {
		for _, c := range []byte("{}[]:,\"\\019aAeutfn.- \t\n\x00\x1f\x7f\x80\xc3\xed\xff") {
			for _, text := range []string{whole[:at] + string([]byte{c}) + whole[at:], whole[:at] + string([]byte{c}) + whole[at+1:]} {
				if check(text) {
					right++
				}
			}
		}
	}
	if right < 300 {
		t.Errorf("just %d of them denote something", right)
	}
}

// P14.1: the whole is the schema's root, whichever struct that is.
func TestRoot(t *testing.T) {
	s := read(t, `struct A { x: u8; } struct B { a: A; t: text; } struct C { x: u64; } root B;`)
	wantValue(t, s, `{"a":{"x":1}}`, there(there(num(1)), raw("")))
	s.Root = 2
	wantValue(t, s, `{"x":"1"}`, there(num(1)))
	wantNone(t, s, `{"x":1}`)
	s.Root = 0
	wantValue(t, s, `{"x":1}`, there(num(1)))
	wantNone(t, s, `{"x":"1"}`)
	wantNone(t, s, `{"a":{"x":1}}`)
	text := ""
	for i := range api.MaxStructs {
		text += "struct S" + strconv.Itoa(i) + " { x" + strconv.Itoa(i) + ": u8; }"
	}
	s = read(t, text+"root S0;")
	for root := range api.MaxStructs {
		s.Root = root
		wantValue(t, s, `{"x`+strconv.Itoa(root)+`":7}`, there(num(7)))
		wantNone(t, s, `{"x`+strconv.Itoa((root+1)%api.MaxStructs)+`":7}`)
	}
}

// P14.1: the widest struct.
func TestWidest(t *testing.T) {
	fields, v := "", there()
	var l []string
	for i := range api.MaxFields {
		fields += "x" + strconv.Itoa(i) + ": u64 = 5;"
		v.Kids = append(v.Kids, num(-i))
		l = append(l, `"x`+strconv.Itoa(i)+`":"`+strconv.FormatUint(uint64(-i), 10)+`"`)
	}
	s := read(t, "struct W { "+fields+" } root W;")
	wantValue(t, s, "{"+strings.Join(l, ",")+"}", v)
	slices.Reverse(l)
	wantValue(t, s, "{"+strings.Join(l, ",")+"}", v)
	for i := range l {
		wantNone(t, s, "{"+strings.Join(append(slices.Clone(l), l[i]), ",")+"}")
	}
}
