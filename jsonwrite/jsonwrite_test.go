package jsonwrite_test

import (
	"encoding/json"
	"math"
	"strconv"
	"strings"
	"testing"

	"transom/api"
	"transom/jsonread"
	"transom/jsonwrite"
	"transom/schema"
	"transom/view"
	"transom/wire"
)

// plenty: more than any value here may want.
const plenty = 1 << 30

// read: a text's schema.
func read(t *testing.T, text string) api.Schema {
	t.Helper()
	s, fault := schema.Read(text)
	if fault != (api.Fault{}) {
		t.Fatalf("%s: %v", text, fault)
	}
	return s
}

// Values are written by these.
func num(n int) api.Val               { return api.Val{Num: uint64(n)} }
func raw(text string) api.Val         { return api.Val{Bytes: []byte(text)} }
func many(kids ...api.Val) api.Val    { return api.Val{Kids: kids} }
func there(fields ...api.Val) api.Val { return api.Val{Has: true, Kids: fields} }

// none: a struct that isn't there, or an empty list.
var none api.Val

// times: as many of one value.
func times(count int, v api.Val) api.Val {
	var l api.Val
	for range count {
		l.Kids = append(l.Kids, v)
	}
	return l
}

// same: are they one value? Nil is as good as empty.
func same(a, b api.Val) bool {
	if a.Num != b.Num || a.Has != b.Has || string(a.Bytes) != string(b.Bytes) || len(a.Kids) != len(b.Kids) {
		return false
	}
	for i := range a.Kids {
		if !same(a.Kids[i], b.Kids[i]) {
			return false
		}
	}
	return true
}

// wantForm checks what a value is written as, and that this is read as that value, and written as that again.
func wantForm(t *testing.T, s api.Schema, v api.Val, want string) {
	t.Helper()
	if !view.Fits(s, s.Root, v) {
		t.Fatalf("%.200v doesn't fit", v)
	}
	b, e := jsonwrite.Write(s, view.Of(v), wire.New(plenty))
	if e != api.OK || string(b) != want {
		t.Errorf("error %d\n%.500s, not\n%.500s", e, b, want)
		return
	}
	if !json.Valid(b) {
		t.Errorf("%.500s is no JSON", b)
	}
	wantBack(t, s, v, b)
}

// wantBack checks that a form is read as the value of which it is the form, if it isn't too long for that.
func wantBack(t *testing.T, s api.Schema, v api.Val, form []byte) {
	t.Helper()
	x, e := jsonread.Read(s, form, wire.New(plenty))
	if len(form) > api.MaxInput {
		if e != api.ErrMalformed {
			t.Errorf("%d bytes: error %d", len(form), e)
		}
		return
	}
	if e != api.OK {
		t.Errorf("%.500s: read: error %d", form, e)
		return
	}
	if got := view.Tree(s, s.Root, x); !same(got, v) {
		t.Errorf("%.500s: read as %.500v, not %.500v", form, got, v)
	}
	if again, e := jsonwrite.Write(s, x, wire.New(plenty)); e != api.OK || string(again) != string(form) {
		t.Errorf("%.500s: written again: error %d, %.500s", form, e, again)
	}
}

// types: of a schema that has two enums and structs, T and U, the second of which is empty but for structs.
const types = `enum E { a, b, Cd } enum F { f } struct T { y: u8 = 5; b: text; } struct U { u: U; t: T; } `

// wantField checks what a value of a struct's one field is written as, alone and among elements.
func wantField(t *testing.T, kind string, v api.Val, want string) {
	t.Helper()
	wantForm(t, read(t, types+"struct S { x: "+kind+"; } root S;"), there(v), `{"x":`+want+`}`)
	if strings.Count(kind, "list") == api.MaxLists {
		return
	}
	s := read(t, types+"struct S { x: list<"+kind+">; } root S;")
	wantForm(t, s, there(many(v)), `{"x":[`+want+`]}`)
	wantForm(t, s, there(many(v, v, v)), `{"x":[`+want+`,`+want+`,`+want+`]}`)
}

// P15.2: the chapter's example.
func TestExample(t *testing.T) {
	s := read(t, `struct S { b: i64; a: text; } root S;`)
	wantForm(t, s, there(num(-1), raw("x\n")), "{\"a\":\"x\\n\",\"b\":\"-1\"}")
}

// P15.2: numbers of each kind, the least, the greatest and those between; those of 64 bits in quotes alone.
func TestNumbers(t *testing.T) {
	for _, x := range []struct {
		kind   string
		n      int
		number string
	}{
		{"i8", math.MinInt8, "-128"}, {"i8", -1, "-1"}, {"i8", 0, "0"}, {"i8", 7, "7"}, {"i8", math.MaxInt8, "127"},
		{"i16", math.MinInt16, "-32768"}, {"i16", -256, "-256"}, {"i16", 0, "0"}, {"i16", math.MaxInt16, "32767"},
		{"i32", math.MinInt32, "-2147483648"}, {"i32", -10, "-10"}, {"i32", 0, "0"}, {"i32", math.MaxInt32, "2147483647"},
		{"i64", math.MinInt64, `"-9223372036854775808"`}, {"i64", -1, `"-1"`}, {"i64", 0, `"0"`}, {"i64", 7, `"7"`}, {"i64", math.MaxInt64, `"9223372036854775807"`},
		{"u8", 0, "0"}, {"u8", 1, "1"}, {"u8", 128, "128"}, {"u8", math.MaxUint8, "255"},
		{"u16", 0, "0"}, {"u16", 32768, "32768"}, {"u16", math.MaxUint16, "65535"},
		{"u32", 0, "0"}, {"u32", 1 << 31, "2147483648"}, {"u32", math.MaxUint32, "4294967295"},
		{"u64", 0, `"0"`}, {"u64", 10, `"10"`}, {"u64", math.MinInt64, `"9223372036854775808"`}, {"u64", -1, `"18446744073709551615"`},
	} {
		wantField(t, x.kind, num(x.n), x.number)
	}
}

// P15.2: bools are words.
func TestBools(t *testing.T) {
	wantField(t, "bool", num(0), "false")
	wantField(t, "bool", num(1), "true")
}

// P15.2: an enum's value is its name in quotes.
func TestEnums(t *testing.T) {
	for i, name := range []string{"a", "b", "Cd"} {
		wantField(t, "E", num(i), `"`+name+`"`)
	}
	wantField(t, "F", num(0), `"f"`)
	var names []string
	for i := range api.MaxNames {
		names = append(names, strings.Repeat("n", api.MaxName-2)+strconv.Itoa(10+i))
	}
	s := read(t, "enum F { z } enum E { "+strings.Join(names, ",")+" } struct S { x: E = "+names[5]+"; y: F; } root S;")
	for i, name := range names {
		wantForm(t, s, there(num(i), num(0)), `{"x":"`+name+`","y":"z"}`)
	}
}

// P15.2: a field that is its default is there too, whatever its default is.
func TestDefaults(t *testing.T) {
	s := read(t, types+`struct S { h: bool = true; g: i8 = -3; f: u64 = 18446744073709551615; e: E = b; d: data; c: text; b: list<T>; a: T; } root S;`)
	wantForm(t, s, view.Default(s.Structs[s.Root]), `{"b":[],"c":"","d":"","e":"b","f":"18446744073709551615","g":-3,"h":true}`)
	zero := there(num(0), num(0), num(0), num(0), raw(""), raw(""), none, none)
	wantForm(t, s, zero, `{"b":[],"c":"","d":"","e":"a","f":"0","g":0,"h":false}`)
}

// P15.2: texts: each byte that is put in another way, and all that is put as it is.
func TestTexts(t *testing.T) {
	for _, x := range []struct{ text, want string }{
		{"", `""`}, {"a", `"a"`}, {" ", `" "`}, {`"`, `"\""`}, {`\`, `"\\"`}, {"/", `"/"`}, {"//</", `"//</"`}, {"\x7f", "\"\x7f\""}, {"'&<>", `"'&<>"`},
		{"\x00", `"\u0000"`}, {"\x01", `"\u0001"`}, {"\x02", `"\u0002"`}, {"\x03", `"\u0003"`}, {"\x04", `"\u0004"`}, {"\x05", `"\u0005"`}, {"\x06", `"\u0006"`}, {"\x07", `"\u0007"`},
		{"\x08", `"\b"`}, {"\x09", `"\t"`}, {"\x0a", `"\n"`}, {"\x0b", `"\u000b"`}, {"\x0c", `"\f"`}, {"\x0d", `"\r"`}, {"\x0e", `"\u000e"`}, {"\x0f", `"\u000f"`},
		{"\x10", `"\u0010"`}, {"\x19", `"\u0019"`}, {"\x1a", `"\u001a"`}, {"\x1b", `"\u001b"`}, {"\x1c", `"\u001c"`}, {"\x1d", `"\u001d"`}, {"\x1e", `"\u001e"`}, {"\x1f", `"\u001f"`},
		{"é", `"é"`}, {"߿", `"߿"`}, {"ࠀ", `"ࠀ"`}, {"€", `"€"`}, {"\ufeff\uffff", "\"\ufeff\uffff\""}, {"\u2028\u2029", "\"\u2028\u2029\""}, {"\u0080\u009f", "\"\u0080\u009f\""},
		{"😀", `"😀"`}, {"\U0010ffff", "\"\U0010ffff\""}, {"\ufffd", "\"\ufffd\""},
		{`"a"`, `"\"a\""`}, {`\"`, `"\\\""`}, {`\\n`, `"\\\\n"`}, {`\u0041`, `"\\u0041"`}, {"a\nb", `"a\nb"`}, {"\na\x01é\"😀\\", `"\na\u0001é\"😀\\"`}, {"\r\n\r\n", `"\r\n\r\n"`}, {"{}[]:,", `"{}[]:,"`},
	} {
		wantField(t, "text", raw(x.text), x.want)
	}
}

// P15.1: each byte below 128 in a text, as another reader of JSON understands it.
func TestEachSign(t *testing.T) {
	s := read(t, `struct S { x: text; } root S;`)
	short := 0
	for c := range 128 {
		for _, text := range []string{string(rune(c)), "a" + string(rune(c)) + "é", strings.Repeat(string(rune(c)), 3)} {
			w := jsonwrite.New(s, wire.New(plenty))
			w.Text([]byte(text))
			form, e := w.Done()
			var back string
			if err := json.Unmarshal(form, &back); e != api.OK || err != nil || back != text || string(form) != quoted(text) {
				t.Errorf("%q: error %d, %s, %q", text, e, form, back)
			}
			if len(form) == len(text)+3 {
				short++
			}
		}
	}
	if short != 2*7 {
		t.Errorf("%d have a sign of their own", short)
	}
}

// P15.2: data are two digits a byte.
func TestData(t *testing.T) {
	for _, x := range []struct{ bytes, want string }{
		{"", `""`}, {"\x00", `"00"`}, {"\n\xff", `"0aff"`}, {"a", `"61"`}, {"\xab\xcd\xef", `"abcdef"`}, {"\"\\", `"225c"`}, {"é", `"c3a9"`}, {"\xed\xa0\x80", `"eda080"`},
	} {
		wantField(t, "data", raw(x.bytes), x.want)
	}
	all, digits := "", ""
	for c := range 256 {
		all += string([]byte{byte(c)})
		digits += strconv.FormatInt(int64(0x100+c), 16)[1:]
	}
	wantField(t, "data", raw(all), `"`+digits+`"`)
}

// P15.2: fields stand by their names, unit of UTF-16 by unit, wherever they stand in the schema.
func TestOrder(t *testing.T) {
	wantForm(t, read(t, `struct S { c: u8; a: u8; b: u8; } root S;`), there(num(1), num(2), num(3)), `{"a":2,"b":3,"c":1}`)
	wantForm(t, read(t, `struct S { a: u8; b: u8; c: u8; } root S;`), there(num(1), num(2), num(3)), `{"a":1,"b":2,"c":3}`)
	wantForm(t, read(t, `struct S { aa: u8; b: u8; a: u8; B: u8; a_: u8; a1: u8; } root S;`), there(num(1), num(2), num(3), num(4), num(5), num(6)), `{"B":4,"a":3,"a1":6,"a_":5,"aa":1,"b":2}`)
	s := read(t, `struct S { "ﬀ": u8; "😀": u8; "€": u8; "é": u8; z: u8; " ": u8; "/": u8; "<": u8; } root S;`)
	wantForm(t, s, there(num(1), num(2), num(3), num(4), num(5), num(6), num(7), num(8)), `{" ":6,"/":7,"<":8,"z":5,"é":4,"€":3,"😀":2,"ﬀ":1}`)
	s = read(t, `struct S { p: u8; o: u8; n: u8; m: u8; l: u8; k: u8; j: u8; i: u8; h: u8; g: u8; f: u8; e: u8; d: u8; c: u8; b: u8; a: u8; } root S;`)
	var v api.Val
	for i := range api.MaxFields {
		v.Kids = append(v.Kids, num(15-i))
	}
	wantForm(t, s, there(v.Kids...), `{"a":0,"b":1,"c":2,"d":3,"e":4,"f":5,"g":6,"h":7,"i":8,"j":9,"k":10,"l":11,"m":12,"n":13,"o":14,"p":15}`)
}

// P15.2: structs in fields, there or not, wherever they stand among the others; of fields that are all not there nothing is left.
func TestStructs(t *testing.T) {
	wantField(t, "T", there(num(5), raw("")), `{"b":"","y":5}`)
	wantField(t, "T", there(num(0), raw("}")), `{"b":"}","y":0}`)
	wantField(t, "U", there(none, none), `{}`)
	wantField(t, "U", there(there(there(none, none), none), none), `{"u":{"u":{}}}`)
	wantField(t, "U", there(none, there(num(1), raw("a"))), `{"t":{"b":"a","y":1}}`)
	wantField(t, "U", there(there(none, none), there(num(1), raw("a"))), `{"t":{"b":"a","y":1},"u":{}}`)
	s := read(t, types+"struct S { x: T; } root S;")
	wantForm(t, s, there(none), `{}`)
	s = read(t, types+"struct S { c: U; n: u8; a: U; z: U; b: bool; } root S;")
	u := there(none, none)
	for _, x := range []struct {
		a, c, z bool
		want    string
	}{
		{false, false, false, `{"b":false,"n":7}`}, {true, false, false, `{"a":{},"b":false,"n":7}`}, {false, true, false, `{"b":false,"c":{},"n":7}`}, {false, false, true, `{"b":false,"n":7,"z":{}}`},
		{true, true, false, `{"a":{},"b":false,"c":{},"n":7}`}, {true, false, true, `{"a":{},"b":false,"n":7,"z":{}}`}, {true, true, true, `{"a":{},"b":false,"c":{},"n":7,"z":{}}`},
	} {
		v := there(none, num(7), none, none, num(0))
		for i, has := range map[int]bool{0: x.c, 2: x.a, 3: x.z} {
			if has {
				v.Kids[i] = u
			}
		}
		wantForm(t, s, v, x.want)
	}
}

// P15.2: lists of none, of one and of many, of every type and in one another.
func TestLists(t *testing.T) {
	for _, x := range []struct {
		kind string
		v    api.Val
		want string
	}{
		{"list<bool>", none, `[]`}, {"list<bool>", many(num(1), num(0)), `[true,false]`}, {"list<i8>", many(num(-1), num(0), num(1)), `[-1,0,1]`}, {"list<u32>", many(num(math.MaxUint32)), `[4294967295]`},
		{"list<i64>", many(num(-1), num(2)), `["-1","2"]`}, {"list<u64>", many(num(-1)), `["18446744073709551615"]`}, {"list<E>", many(num(2), num(0)), `["Cd","a"]`},
		{"list<text>", many(raw(""), raw(","), raw("\"")), `["",",","\""]`}, {"list<data>", many(raw("a"), raw("")), `["61",""]`},
		{"list<T>", none, `[]`}, {"list<T>", many(there(num(5), raw("")), there(num(6), raw("b"))), `[{"b":"","y":5},{"b":"b","y":6}]`}, {"list<U>", many(there(none, none), there(there(none, none), none)), `[{},{"u":{}}]`},
		{"list<list<u8>>", none, `[]`}, {"list<list<u8>>", many(none), `[[]]`}, {"list<list<u8>>", many(many(num(1)), none, many(num(2), num(3))), `[[1],[],[2,3]]`},
		{"list<list<list<text>>>", many(many(none, many(raw("a"), raw("b"))), none), `[[[],["a","b"]],[]]`}, {"list<list<list<T>>>", many(many(many(there(num(1), raw("x"))))), `[[[{"b":"x","y":1}]]]`},
	} {
		wantField(t, x.kind, x.v, x.want)
	}
	var want []string
	for i := range 200 {
		want = append(want, strconv.Itoa(i))
	}
	var l api.Val
	for i := range 200 {
		l.Kids = append(l.Kids, num(i))
	}
	wantField(t, "list<u8>", l, "["+strings.Join(want, ",")+"]")
}

// P15.2: names of fields are whatever may stand in quotes, as long as may be; enums', structs' and texts' names are beside each other.
func TestNames(t *testing.T) {
	long := strings.Repeat("é", api.MaxName/2)
	s := read(t, `struct S { "`+long+`": u8; "a b": u8; "true": u8; "{": u8; "//": u8; "x.y": u8; list: u8; } root S;`)
	wantForm(t, s, there(num(1), num(2), num(3), num(4), num(5), num(6), num(7)), `{"//":5,"a b":2,"list":7,"true":3,"x.y":6,"{":4,"`+long+`":1}`)
}

// P15.2: the root is any struct.
func TestRoots(t *testing.T) {
	for root, want := range map[string]string{"A": `{"a":1}`, "B": `{"b":"x"}`, "C": `{"c":[]}`} {
		s := read(t, `struct A { a: u8; } struct B { b: text; } struct C { c: list<B>; } root `+root+`;`)
		v := map[string]api.Val{"A": there(num(1)), "B": there(raw("x")), "C": there(none)}[root]
		wantForm(t, s, v, want)
	}
}

// P15.2: a value as deep as may be.
func TestDeep(t *testing.T) {
	s := read(t, `struct S { s: S; l: list<list<S>>; n: list<u8>; } root S;`)
	v, want := there(none, none, many(num(1))), `{"l":[],"n":[1]}`
	for range api.MaxNest - 2 {
		v, want = there(v, none, none), `{"l":[],"n":[],"s":`+want+`}`
	}
	wantForm(t, s, v, want)
	v, want = there(none, none, none), `{"l":[],"n":[]}`
	for range 3 {
		v, want = there(none, many(none, many(v)), none), `{"l":[[],[`+want+`]],"n":[]}`
	}
	wantForm(t, s, v, want)
}
