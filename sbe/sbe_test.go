package sbe_test

import (
	"bytes"
	"encoding/binary"
	"math"
	"reflect"
	"slices"
	"strconv"
	"strings"
	"testing"

	"transom/api"
	"transom/sbe"
	"transom/schema"
	"transom/view"
	"transom/wire"
)

// plenty: more than any message or value here may want.
const plenty = 1 << 30

// read: a text's schema.
func read(t *testing.T, text string) api.Schema {
	t.Helper()
	s, fault := schema.Read(text)
	if fault != (api.Fault{}) {
		t.Fatalf("%s: %v", text, fault)
	}
	return s
}

// Messages are written by these, one behind the other: numbers of a size, and of 2 bytes; a message's head; a group's head and elements; bytes and how many they are.
func sized(size int, l ...int) string {
	var b []byte
	for _, n := range l {
		b = append(b, binary.LittleEndian.AppendUint64(nil, uint64(n))[:size]...)
	}
	return string(b)
}
func short(l ...int) string      { return sized(2, l...) }
func head(size, root int) string { return short(size, root+1, 1, 0) }
func group(size int, elements ...string) string {
	return short(size, len(elements)) + join(elements...)
}
func counted(text string) string  { return short(len(text)) + text }
func join(parts ...string) string { return strings.Join(parts, "") }
func zeros(n int) string          { return string(make([]byte, n)) }
func repeated(count int, element string) []string {
	return slices.Repeat([]string{element}, count)
}

// Values are written by these.
func num(n int) api.Val               { return api.Val{Num: uint64(n)} }
func raw(text string) api.Val         { return api.Val{Bytes: []byte(text)} }
func many(kids ...api.Val) api.Val    { return api.Val{Kids: kids} }
func there(fields ...api.Val) api.Val { return api.Val{Has: true, Kids: fields} }

// none: a struct that isn't there, or an empty list.
var none api.Val

// times: as many of one value.
func times(count int, v api.Val) api.Val {
	var l api.Val
	for range count {
		l.Kids = append(l.Kids, v)
	}
	return l
}

// same: are they one value? Nil is as good as empty.
func same(a, b api.Val) bool {
	if a.Num != b.Num || a.Has != b.Has || string(a.Bytes) != string(b.Bytes) || len(a.Kids) != len(b.Kids) {
		return false
	}
	for i := range a.Kids {
		if !same(a.Kids[i], b.Kids[i]) {
			return false
		}
	}
	return true
}

// differ: how long two messages are, and where they first aren't alike.
func differ(a, b string) string {
	at := 0
	for at < min(len(a), len(b)) && a[at] == b[at] {
		at++
	}
	return strconv.Itoa(len(a)) + " bytes, not " + strconv.Itoa(len(b)) + ", unlike from " + strconv.Itoa(at) + " on"
}

// wantRead checks that a message denotes a value, that Read leaves it as it is, and that what was read is written as just these bytes.
func wantRead(t *testing.T, what string, s api.Schema, form string, want api.Val) {
	t.Helper()
	b := []byte(form)
	x, e := sbe.Read(s, b, wire.New(plenty))
	if e != api.OK {
		t.Errorf("%s: %x: read: error %d", what, form, e)
		return
	}
	if got := view.Tree(s, s.Root, x); !same(got, want) {
		t.Errorf("%s: read as %v, not %v", what, got, want)
	}
	if again, e := sbe.Write(s, x, wire.New(plenty)); e != api.OK || string(again) != form {
		t.Errorf("%s: written again: error %d, %s", what, e, differ(string(again), form))
	}
	if string(b) != form {
		t.Errorf("%s: the message was changed", what)
	}
}

// wantNone checks that a message denotes nothing.
func wantNone(t *testing.T, what string, s api.Schema, form string) {
	t.Helper()
	if x, e := sbe.Read(s, []byte(form), wire.New(plenty)); e != api.ErrMalformed || x != nil {
		t.Errorf("%s: %x: error %d, %v", what, form, e, x)
	}
}

// wantEither checks one or the other.
func wantEither(t *testing.T, what string, s api.Schema, form string, ok bool, want api.Val) {
	t.Helper()
	if ok {
		wantForm(t, what, s, want, form)
	} else {
		wantNone(t, what, s, form)
	}
}

// wantForm checks what a value is written as, and that this is read as that value, and written as that again; and that nothing is read that is cut short, or has something behind.
func wantForm(t *testing.T, what string, s api.Schema, v api.Val, want string) {
	t.Helper()
	if !view.Fits(s, s.Root, v) {
		t.Fatalf("%s: %v doesn't fit", what, v)
	}
	if b, e := sbe.Write(s, view.Of(v), wire.New(plenty)); e != api.OK || string(b) != want {
		t.Errorf("%s: error %d\n%x, not\n%x", what, e, b, want)
	}
	wantRead(t, what, s, want, v)
	for i := max(0, len(want)-200); i < len(want); i++ {
		wantNone(t, what+", cut short", s, want[:i])
	}
	for _, behind := range []string{"\x00", "\xff", zeros(2), zeros(4), want} {
		wantNone(t, what+", and something behind", s, want+behind)
	}
}

// P12.1, P12.2: the chapter's example.
func TestExample(t *testing.T) {
	s := read(t, `struct S { x: u8 = 3; t: text; } root S;`)
	want := "\x01\x00\x01\x00\x01\x00\x00\x00" + "\x07" + "\x02\x00\x61\x62"
	wantForm(t, "x 7, t ab", s, there(num(7), raw("ab")), want)
	if told := head(1, 0) + "\x07" + counted("ab"); told != want {
		t.Errorf("the tests' own way of writing: %x", told)
	}
}

// numbers: of each kind its size in bytes, and numbers of its.
var numbers = []struct {
	kind    string
	size    int
	numbers []int
}{
	{"bool", 1, []int{0, 1}},
	{"i8", 1, []int{0, -1, 1, math.MaxInt8, math.MinInt8}},
	{"i16", 2, []int{0, -1, 1, 255, 256, math.MaxInt16, math.MinInt16}},
	{"i32", 4, []int{0, -1, 1, 65535, math.MaxInt32, math.MinInt32}},
	{"i64", 8, []int{0, -1, 1, 1 << 32, math.MaxInt64, math.MinInt64}},
	{"u8", 1, []int{0, 1, 127, 128, 255}},
	{"u16", 2, []int{0, 1, 255, 256, 0xabcd, 65535}},
	{"u32", 4, []int{0, 1, 1 << 16, 0x1234_5678, math.MaxInt32, math.MaxUint32}},
	{"u64", 8, []int{0, 1, 1 << 32, math.MaxInt64, -1}},
	{"E", 1, []int{0, 1, 2}},
}

// P12.1, P12.2: numbers of each kind, with their signs, the lowest byte first; also those that are their defaults stand there.
func TestNumbers(t *testing.T) {
	for _, x := range numbers {
		one := map[string]string{"bool": " = true", "E": " = b"}[x.kind]
		if one == "" {
			one = " = 1"
		}
		for _, def := range []string{"", one} {
			s := read(t, "enum E { a, b, c } struct S { x: "+x.kind+def+"; } root S;")
			for _, n := range x.numbers {
				wantForm(t, x.kind+def, s, there(num(n)), head(x.size, 0)+sized(x.size, n))
			}
		}
	}
	s := read(t, `struct S { a: u16; b: u32; c: u64; } root S;`)
	wantForm(t, "the lowest first", s, there(num(0x0102), num(0x03040506), num(0x0708090a0b0c0d0e)), head(14, 0)+"\x02\x01"+"\x06\x05\x04\x03"+"\x0e\x0d\x0c\x0b\x0a\x09\x08\x07")
}

// P12.1, P12.2: a struct's numbers, then its groups, then its bytes, each in their order.
func TestOrder(t *testing.T) {
	s := read(t, `enum E { x, y } struct T { n: u16; t: text; } struct S { t: text; a: u8; l: list<u8>; b: i64; d: data; s: T; c: E; m: list<text>; e: bool = true; r: list<T>; f: u32 = 9; u: text; } root S;`)
	v := there(raw("one"), num(0x11), many(num(2), num(3)), num(-4), raw("\xff"), there(num(5), raw("six")), num(1), many(raw("seven"), raw("")), num(0),
		many(there(num(8), raw("")), there(num(9), raw("ten"))), num(11), raw("twelve"))
	wantForm(t, "all", s, v, head(15, 1)+
		"\x11"+sized(8, -4)+"\x01"+"\x00"+sized(4, 11)+
		group(1, "\x02", "\x03")+group(2, short(5)+counted("six"))+group(0, counted("seven"), counted(""))+group(2, short(8)+counted(""), short(9)+counted("ten"))+
		counted("one")+counted("\xff")+counted("twelve"))
	wantForm(t, "defaults", s, view.Default(s.Structs[1]), head(15, 1)+
		"\x00"+sized(8, 0)+"\x00"+"\x01"+sized(4, 9)+group(1)+group(2)+group(0)+group(2)+counted("")+counted("")+counted(""))
}

// P12.1, P12.2: each field alone.
func TestFieldsAlone(t *testing.T) {
	for _, x := range []struct {
		field string
		size  int
		v     api.Val
		form  string
	}{
		{"u8", 1, num(7), "\x07"}, {"bool", 1, num(1), "\x01"}, {"text", 0, raw("é"), counted("é")}, {"data", 0, raw("\x80"), counted("\x80")},
		{"T", 0, none, group(4)}, {"T", 0, there(num(6)), group(4, sized(4, 6))}, {"P", 0, none, group(0)}, {"P", 0, there(raw("a")), group(0, counted("a"))},
		{"list<T>", 0, none, group(4)}, {"list<T>", 0, many(there(num(6)), there(num(0)), there(num(5))), group(4, sized(4, 6), sized(4, 0), sized(4, 5))},
		{"list<P>", 0, none, group(0)}, {"list<P>", 0, many(there(raw("a")), there(raw(""))), group(0, counted("a"), counted(""))},
		{"list<u16>", 0, none, group(2)}, {"list<text>", 0, none, group(0)}, {"list<data>", 0, many(raw("a"), raw("\xff")), group(0, counted("a"), counted("\xff"))},
		{"list<list<u16>>", 0, none, group(0)}, {"list<list<T>>", 0, none, group(0)},
		{"list<list<u16>>", 0, many(none, many(num(1), num(2)), none), group(0, group(2), group(2, short(1), short(2)), group(2))},
		{"list<list<T>>", 0, many(many(there(num(4))), none), group(0, group(4, sized(4, 4)), group(4))},
		{"list<list<text>>", 0, many(many(raw("a"), raw("")), none), group(0, group(0, counted("a"), counted("")), group(0))},
		{"list<list<list<i64>>>", 0, many(many(many(num(-1)), none), none, many(none)), group(0, group(0, group(8, sized(8, -1)), group(8)), group(0), group(0, group(8)))},
		{"list<list<list<P>>>", 0, many(many(many(there(raw("b"))))), group(0, group(0, group(0, counted("b"))))},
	} {
		s := read(t, "struct T { n: u32; } struct P { d: data; } struct S { x: "+x.field+"; } root S;")
		wantForm(t, x.field, s, there(x.v), head(x.size, 2)+x.form)
	}
}

// P12.1, P12.2: bytes: how many, and these; no byte behind.
func TestBytes(t *testing.T) {
	text, data := read(t, `struct S { x: text; } root S;`), read(t, `struct S { x: data; } root S;`)
	texts, datas := read(t, `struct S { x: list<text>; } root S;`), read(t, `struct S { x: list<data>; } root S;`)
	for _, x := range []struct {
		bytes string
		utf8  bool
	}{
		{"", true}, {"a", true}, {"\x00", true}, {"a\x00b", true}, {"abcdefgh", true}, {"é", true}, {"€", true}, {"😀", true}, {"\xf4\x8f\xbf\xbf", true}, {"\xed\x9f\xbf", true}, {"\xee\x80\x80", true}, {"\xef\xbf\xbd", true}, {zeros(255), true}, {zeros(256), true}, {zeros(257), true},
		{"\xff", false}, {"\xc3", false}, {"\xa9", false}, {"\xc0\x80", false}, {"\xed\xa0\x80", false}, {"\xf4\x90\x80\x80", false}, {"\xe0\x80\x80", false}, {"ab\xe2\x82", false}, {zeros(300) + "\x80", false},
	} {
		wantEither(t, "text", text, head(0, 0)+counted(x.bytes), x.utf8, there(raw(x.bytes)))
		wantForm(t, "data", data, there(raw(x.bytes)), head(0, 0)+counted(x.bytes))
		for at := range 3 {
			l := []string{"a", "b", "c"}
			l[at] = x.bytes
			v := there(many(raw(l[0]), raw(l[1]), raw(l[2])))
			form := head(0, 0) + group(0, counted(l[0]), counted(l[1]), counted(l[2]))
			wantEither(t, "texts", texts, form, x.utf8, v)
			wantForm(t, "datas", datas, v, form)
		}
	}
	two := read(t, `struct S { x: text; y: text; } root S;`)
	wantNone(t, "a sign in two texts", two, head(0, 0)+counted("\xc3")+counted("\xa9"))
}

// P12.1, P12.2: lists of each kind of number: of any length, with no default.
func TestListsOfNumbers(t *testing.T) {
	for _, x := range numbers {
		s := read(t, "enum E { a, b, c } struct S { x: list<"+x.kind+">; } root S;")
		var v api.Val
		var elements []string
		for i := range 20 {
			wantForm(t, x.kind, s, there(v), head(0, 0)+group(x.size, elements...))
			n := x.numbers[i%len(x.numbers)]
			v.Kids = append(v.Kids, num(n))
			elements = append(elements, sized(x.size, n))
		}
		long := repeated(1000, sized(x.size, 1))
		wantForm(t, x.kind, s, there(times(1000, num(1))), head(0, 0)+group(x.size, long...))
	}
}

// P12.1, P12.2: structs in a list stand one behind the other, each with its groups and bytes.
func TestListsOfStructs(t *testing.T) {
	s := read(t, `struct U { b: bool; d: data; } struct T { x: u8 = 3; t: text; u: U; l: list<U>; } struct S { l: list<T>; n: u16; } root S;`)
	u := func(n int, d string) (api.Val, string) { return there(num(n), raw(d)), sized(1, n) + counted(d) }
	u1, f1 := u(1, "one")
	u2, f2 := u(0, "")
	u3, f3 := u(1, "\xff\x00")
	for _, x := range []struct {
		v    api.Val
		form string
	}{
		{many(), group(1)},
		{many(there(num(4), raw(""), none, none)), group(1, "\x04"+group(1)+group(1)+counted(""))},
		{many(there(num(3), raw("a"), u1, none), there(num(5), raw("bc"), none, many(u2, u3))),
			group(1, "\x03"+group(1, f1)+group(1)+counted("a"), "\x05"+group(1)+group(1, f2, f3)+counted("bc"))},
		{many(there(num(1), raw(""), u3, many(u1, u1, u2)), there(num(3), raw(""), none, none), there(num(2), raw("z"), u2, many(u3))),
			group(1, "\x01"+group(1, f3)+group(1, f1, f1, f2)+counted(""), "\x03"+group(1)+group(1)+counted(""), "\x02"+group(1, f2)+group(1, f3)+counted("z"))},
	} {
		wantForm(t, "structs", s, there(x.v, num(258)), head(2, 2)+"\x02\x01"+x.form)
	}
}

// P12.1, P12.2: the whole is the schema's root, whichever struct that is.
func TestRoot(t *testing.T) {
	s := read(t, `struct A { x: u8; } struct B { a: A; t: text; } struct C { x: u64; } root B;`)
	wantForm(t, "the second", s, there(there(num(1)), raw("")), head(0, 1)+group(1, "\x01")+counted(""))
	s.Root = 2
	wantForm(t, "the third", s, there(num(1)), head(8, 2)+sized(8, 1))
	s.Root = 0
	wantForm(t, "the first", s, there(num(1)), head(1, 0)+"\x01")
	text := ""
	for i := range api.MaxStructs {
		text += "struct S" + strconv.Itoa(i) + " { x: u8; }"
	}
	s = read(t, text+"root S0;")
	for root := range api.MaxStructs {
		s.Root = root
		wantForm(t, "of as many as may be", s, there(num(7)), head(1, root)+"\x07")
	}
}

// P12.1, P12.2: the widest struct, as the root and in groups: its numbers' size is told.
func TestWidest(t *testing.T) {
	fields, v := "", there()
	form := ""
	for i := range api.MaxFields {
		fields += "x" + strconv.Itoa(i) + ": u64 = 5;"
		v.Kids = append(v.Kids, num(-i))
		form += sized(8, -i)
	}
	s := read(t, "struct W { "+fields+" } struct S { w: W; l: list<W>; } root W;")
	wantForm(t, "numbers", s, v, head(128, 0)+form)
	s.Root = 1
	wantForm(t, "in groups", s, there(v, many(v, v)), head(0, 1)+group(128, form)+group(128, form, form))
	fields, v, form = "", there(), ""
	for i := range api.MaxFields {
		fields += "x" + strconv.Itoa(i) + ": list<bool>;"
		v.Kids = append(v.Kids, times(i, num(1)))
		form += group(1, repeated(i, "\x01")...)
	}
	s = read(t, "struct W { "+fields+" } root W;")
	wantForm(t, "groups", s, v, head(0, 0)+form)
	fields, v, form = "", there(), ""
	for i := range api.MaxFields {
		fields += "x" + strconv.Itoa(i) + ": text;"
		v.Kids = append(v.Kids, raw(strings.Repeat("x", i)))
		form += counted(strings.Repeat("x", i))
	}
	s = read(t, "struct W { "+fields+" } root W;")
	wantForm(t, "texts", s, v, head(0, 0)+form)
}

// R8: the same again, with the same arguments.
func TestAgain(t *testing.T) {
	s := read(t, `struct T { n: u8; t: text; } struct S { t: list<text>; l: list<list<u8>>; r: list<T>; } root S;`)
	v := view.Of(there(many(raw("a"), raw("bc")), many(many(num(1))), many(there(num(1), raw("d")))))
	first, _ := sbe.Write(s, v, wire.New(plenty))
	x, _ := sbe.Read(s, first, wire.New(plenty))
	for range 20 {
		if b, e := sbe.Write(s, v, wire.New(plenty)); e != api.OK || !reflect.DeepEqual(b, first) {
			t.Errorf("error %d, %x, not %x", e, b, first)
		}
		if y, e := sbe.Read(s, bytes.Clone(first), wire.New(plenty)); e != api.OK || !same(view.Tree(s, s.Root, x), view.Tree(s, s.Root, y)) {
			t.Errorf("error %d, %v", e, y)
		}
	}
}
