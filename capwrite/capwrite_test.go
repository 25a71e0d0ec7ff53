package capwrite_test

import (
	"encoding/binary"
	"math"
	"reflect"
	"strings"
	"testing"

	"transom/api"
	"transom/capread"
	"transom/capwrite"
	"transom/schema"
	"transom/view"
	"transom/wire"
)

// plenty: more than any value here may want.
const plenty = 1 << 30

// read: a text's schema.
func read(t *testing.T, text string) api.Schema {
	t.Helper()
	s, fault := schema.Read(text)
	if fault != (api.Fault{}) {
		t.Fatalf("%s: %v", text, fault)
	}
	return s
}

// message: words behind the head that tells how many they are.
func message(words ...uint64) string {
	b := binary.LittleEndian.AppendUint32(make([]byte, 4), uint32(len(words)))
	for _, w := range words {
		b = binary.LittleEndian.AppendUint64(b, w)
	}
	return string(b)
}

// Words are written by these: pointers with an offset, a tag, a piece of bytes.
func ofStruct(offset, nums, ptrs int) uint64 {
	return uint64(uint32(offset<<2)) | uint64(nums)<<32 | uint64(ptrs)<<48
}
func ofList(offset, code, count int) uint64 {
	return uint64(uint32(offset<<2)) | 1 | uint64(code)<<32 | uint64(count)<<35
}
func tag(count, nums, ptrs int) uint64 { return ofStruct(count, nums, ptrs) }
func chars(text string) uint64 {
	return binary.LittleEndian.Uint64([]byte(text + strings.Repeat("\x00", 8-len(text))))
}

// Values are written by these.
func num(n int) api.Val               { return api.Val{Num: uint64(n)} }
func raw(text string) api.Val         { return api.Val{Bytes: []byte(text)} }
func many(kids ...api.Val) api.Val    { return api.Val{Kids: kids} }
func there(fields ...api.Val) api.Val { return api.Val{Has: true, Kids: fields} }

// times: as many of one value.
func times(count int, v api.Val) api.Val {
	var l api.Val
	for range count {
		l.Kids = append(l.Kids, v)
	}
	return l
}

// same: are they one value? Nil is as good as empty.
func same(a, b api.Val) bool {
	if a.Num != b.Num || a.Has != b.Has || string(a.Bytes) != string(b.Bytes) || len(a.Kids) != len(b.Kids) {
		return false
	}
	for i := range a.Kids {
		if !same(a.Kids[i], b.Kids[i]) {
			return false
		}
	}
	return true
}

// wantForm checks what a value is written as, and that this is read as that value, and written as that again.
func wantForm(t *testing.T, what string, s api.Schema, v api.Val, want string) {
	t.Helper()
	if !view.Fits(s, s.Root, v) {
		t.Fatalf("%s: %v doesn't fit", what, v)
	}
	b, e := capwrite.Write(s, view.Of(v), wire.New(plenty))
	if e != api.OK || string(b) != want {
		t.Errorf("%s: error %d\n%x, not\n%x", what, e, b, want)
		return
	}
	wantBack(t, what, s, v, b)
}

// wantBack checks that a form is read as the value of which it is the form.
func wantBack(t *testing.T, what string, s api.Schema, v api.Val, form []byte) {
	t.Helper()
	x, e := capread.Read(s, form, wire.New(plenty))
	if len(form) > api.MaxInput {
		if e != api.ErrMalformed {
			t.Errorf("%s: too long to be read, error %d", what, e)
		}
		return
	}
	if e != api.OK {
		t.Errorf("%s: read: error %d", what, e)
		return
	}
	if got := view.Tree(s, s.Root, x); !same(got, v) {
		t.Errorf("%s: read as another value", what)
	}
	if again, e := capwrite.Write(s, x, wire.New(plenty)); e != api.OK || string(again) != string(form) {
		t.Errorf("%s: written again: error %d, %s", what, e, differ(string(again), string(form)))
	}
}

// P9.1: the chapter's example.
func TestExample(t *testing.T) {
	s := read(t, `struct S { x: u8 = 3; } root S;`)
	wantForm(t, "x is 7", s, there(num(7)), "\x00\x00\x00\x00\x02\x00\x00\x00"+"\x00\x00\x00\x00\x01\x00\x00\x00"+"\x04\x00\x00\x00\x00\x00\x00\x00")
	wantForm(t, "x is 3", s, there(num(3)), message(ofStruct(0, 1, 0), 0))
	wantForm(t, "x is 0", s, there(num(0)), message(ofStruct(0, 1, 0), 3))
}

// P9.1: a field's number is its bits, exclusive or with its default's, and nothing else in the word.
func TestNumbers(t *testing.T) {
	for _, x := range []struct {
		field string
		n     int
		word  uint64
	}{
		{"bool", 0, 0}, {"bool", 1, 1}, {"bool = true", 1, 0}, {"bool = true", 0, 1},
		{"i8", -1, 0xff}, {"i8", -128, 0x80}, {"i8", 127, 0x7f}, {"i8 = -1", -1, 0}, {"i8 = -1", 0, 0xff}, {"i8 = -1", 127, 0x80}, {"i8 = 5", -6, 0xff},
		{"u8", 255, 0xff}, {"u8 = 255", 0, 0xff}, {"u8 = 255", 255, 0}, {"u8 = 85", 170, 0xff},
		{"i16", -2, 0xfffe}, {"i16", math.MinInt16, 0x8000}, {"i16 = -2", -1, 1}, {"u16", 0xabcd, 0xabcd}, {"u16 = 65535", 1, 0xfffe},
		{"i32", -2, 0xffff_fffe}, {"i32", math.MinInt32, 0x8000_0000}, {"i32 = -1", math.MaxInt32, 0x8000_0000}, {"u32", 0x1234_5678, 0x1234_5678}, {"u32 = 4294967295", 0, 0xffff_ffff},
		{"i64", -2, 0xffff_ffff_ffff_fffe}, {"i64", math.MinInt64, 1 << 63}, {"i64 = -1", math.MaxInt64, 1 << 63}, {"i64 = -1", -1, 0},
		{"u64", -1, math.MaxUint64}, {"u64 = 18446744073709551615", 0, math.MaxUint64}, {"u64 = 18446744073709551615", -1, 0},
		{"E", 0, 0}, {"E", 2, 2}, {"E = c", 2, 0}, {"E = c", 0, 2}, {"E = c", 1, 3},
	} {
		s := read(t, "enum E { a, b, c } struct S { x: "+x.field+"; } root S;")
		wantForm(t, x.field, s, there(num(x.n)), message(ofStruct(0, 1, 0), x.word))
	}
}

// P9.1: numbers stand as layout.Words says, the widest first, and pointers behind them.
func TestNumbersPlaces(t *testing.T) {
	s := read(t, `struct S { a: bool; b: u8; t: text; c: i16; d: bool = true; e: u32; f: i64; g: u64; h: i8; d2: data; i: u16; j: bool; } root S;`)
	v := there(num(1), num(0x22), raw("t"), num(-2), num(0), num(0x4444_4444), num(-6), num(0x66), num(-8), raw("d"), num(0x7777), num(1))
	wantForm(t, "many", s, v, message(ofStruct(0, 4, 2), 0xffff_ffff_ffff_fffa, 0x66, 0x7777_fffe_4444_4444, 0x07_f822, ofList(1, 2, 2), ofList(1, 2, 1), chars("t"), chars("d")))
	v = view.Default(s.Structs[0])
	wantForm(t, "defaults", s, v, message(ofStruct(0, 4, 2), 0, 0, 0, 0, 0, 0))
	s = read(t, `struct S { a: u64; b: bool; c: bool; d: u32; e: u32; } root S;`)
	wantForm(t, "a word more for a bit", s, there(num(0), num(0), num(1), num(0), num(0)), message(ofStruct(0, 3, 0), 0, 0, 2))
}

// P9.1: bytes behind a list of code 2, of a text with a byte 0 more; of nothing: null.
func TestBytes(t *testing.T) {
	text, data := read(t, `struct S { x: text; } root S;`), read(t, `struct S { x: data; } root S;`)
	wantForm(t, "no text", text, there(raw("")), message(ofStruct(0, 0, 1), 0))
	wantForm(t, "no data", data, there(raw("")), message(ofStruct(0, 0, 1), 0))
	for _, x := range []string{"a", "é", "\x00", "\x00\x00", "a\x00b", "abcdef", "abcdefg"} {
		wantForm(t, "text", text, there(raw(x)), message(ofStruct(0, 0, 1), ofList(0, 2, len(x)+1), chars(x)))
		wantForm(t, "data", data, there(raw(x)), message(ofStruct(0, 0, 1), ofList(0, 2, len(x)), chars(x)))
	}
	wantForm(t, "data that is no text", data, there(raw("\xff\xc3")), message(ofStruct(0, 0, 1), ofList(0, 2, 2), 0xc3ff))
	wantForm(t, "a text of a word", text, there(raw("abcdefgh")), message(ofStruct(0, 0, 1), ofList(0, 2, 9), chars("abcdefgh"), 0))
	wantForm(t, "data of a word", data, there(raw("abcdefgh")), message(ofStruct(0, 0, 1), ofList(0, 2, 8), chars("abcdefgh")))
	wantForm(t, "a text of more", text, there(raw("abcdefghé")), message(ofStruct(0, 0, 1), ofList(0, 2, 11), chars("abcdefgh"), chars("é")))
	wantForm(t, "data of more", data, there(raw("abcdefghi")), message(ofStruct(0, 0, 1), ofList(0, 2, 9), chars("abcdefgh"), chars("i")))
}

// P9.1: lists of numbers: a code for as many bits, and no default.
func TestListsOfNumbers(t *testing.T) {
	for _, x := range []struct {
		of    string
		code  int
		l     []int
		words []uint64
	}{
		{"bool", 1, []int{0}, []uint64{0}}, {"bool", 1, []int{1, 0, 1}, []uint64{5}},
		{"i8", 2, []int{-1, 2}, []uint64{0x02ff}}, {"u8", 2, []int{255, 0, 1}, []uint64{0x01_00ff}},
		{"i16", 3, []int{-1, 2}, []uint64{0x0002_ffff}}, {"u16", 3, []int{65535, 0, 0, 1}, []uint64{0x0001_0000_0000_ffff}}, {"E", 3, []int{2, 0, 1}, []uint64{0x0001_0000_0002}},
		{"i32", 4, []int{-1, 2, -3}, []uint64{0x0000_0002_ffff_ffff, 0xffff_fffd}}, {"u32", 4, []int{7}, []uint64{7}},
		{"i64", 5, []int{-1, 0, 2}, []uint64{math.MaxUint64, 0, 2}}, {"u64", 5, []int{-1}, []uint64{math.MaxUint64}},
	} {
		s := read(t, "enum E { a, b, c } struct S { x: list<"+x.of+">; } root S;")
		var v api.Val
		for _, n := range x.l {
			v.Kids = append(v.Kids, num(n))
		}
		wantForm(t, x.of, s, there(v), message(append([]uint64{ofStruct(0, 0, 1), ofList(0, x.code, len(x.l))}, x.words...)...))
		wantForm(t, "none of "+x.of, s, there(api.Val{}), message(ofStruct(0, 0, 1), 0))
		wantForm(t, "none of "+x.of, s, there(many()), message(ofStruct(0, 0, 1), 0))
	}
}

// P9.1: a list's last word holds what is left of it.
func TestListsLastWord(t *testing.T) {
	for _, x := range []struct {
		of          string
		code, width int
	}{{"bool", 1, 1}, {"u8", 2, 8}, {"u16", 3, 16}, {"u32", 4, 32}, {"u64", 5, 64}} {
		s := read(t, "struct S { x: list<"+x.of+">; } root S;")
		for count := 1; count <= 130; count++ {
			l := times(count, num(1))
			words := []uint64{ofStruct(0, 0, 1), ofList(0, x.code, count)}
			for bit := 0; bit < count*x.width; bit += x.width {
				if bit%64 == 0 {
					words = append(words, 0)
				}
				words[len(words)-1] |= 1 << (bit % 64)
			}
			wantForm(t, x.of, s, there(l), message(words...))
		}
	}
}

// P9.1: within a list, empty bytes and empty lists are null.
func TestListsOfPointers(t *testing.T) {
	s := read(t, `struct S { t: list<text>; d: list<data>; l: list<list<u8>>; } root S;`)
	nothing := many(raw(""), raw(""))
	wantForm(t, "of nothing", s, there(nothing, nothing, many(many(), api.Val{})), message(ofStruct(0, 0, 3), ofList(2, 6, 2), ofList(3, 6, 2), ofList(4, 6, 2), 0, 0, 0, 0, 0, 0))
	v := there(many(raw(""), raw("a")), many(raw("b"), raw("")), many(many(num(3)), many(), many(num(4), num(0))))
	wantForm(t, "of something", s, v, message(ofStruct(0, 0, 3), ofList(2, 6, 2), ofList(4, 6, 2), ofList(6, 6, 3),
		0, ofList(0, 2, 2), chars("a"),
		ofList(1, 2, 1), 0, chars("b"),
		ofList(2, 2, 1), 0, ofList(1, 2, 2), 3, 4))
}

// P9.1: an object stands ahead of all that comes of it, and that ahead of the next pointer's object.
func TestListsOfLists(t *testing.T) {
	s := read(t, `struct S { l: list<list<list<text>>>; x: data; } root S;`)
	v := there(many(many(many(raw("a"), raw("b")), many()), many(), many(many(raw("c")))), raw("d"))
	wantForm(t, "in lists", s, v, message(ofStruct(0, 0, 2), ofList(1, 6, 3), ofList(12, 2, 1),
		ofList(2, 6, 2), 0, ofList(6, 6, 1), // 3: the outermost
		ofList(1, 6, 2), 0, // 6: its first
		ofList(1, 2, 2), ofList(1, 2, 2), chars("a"), chars("b"), // 8: its first
		ofList(0, 6, 1),             // 12: the outermost's third
		ofList(0, 2, 2), chars("c"), // 13: its first
		chars("d")))
}

// P9.1: a struct that is there has all its words, be they defaults; one that isn't is null.
func TestStructs(t *testing.T) {
	s := read(t, `struct T { x: u8 = 3; t: text; } struct U { t: T; } struct V { x: u16 = 9; } struct S { a: T; b: U; c: V; } root S;`)
	none := api.Val{}
	wantForm(t, "none there", s, there(none, none, none), message(ofStruct(0, 0, 3), 0, 0, 0))
	wantForm(t, "one of defaults", s, there(there(num(3), raw("")), none, none), message(ofStruct(0, 0, 3), ofStruct(2, 1, 1), 0, 0, 0, 0))
	wantForm(t, "one of pointers", s, there(none, there(none), none), message(ofStruct(0, 0, 3), 0, ofStruct(1, 0, 1), 0, 0))
	wantForm(t, "one of numbers", s, there(none, none, there(num(9))), message(ofStruct(0, 0, 3), 0, 0, ofStruct(0, 1, 0), 0))
	v := there(there(num(2), raw("a")), there(there(num(3), raw("b"))), there(num(8)))
	wantForm(t, "all", s, v, message(ofStruct(0, 0, 3), ofStruct(2, 1, 1), ofStruct(4, 0, 1), ofStruct(7, 1, 0),
		1, ofList(0, 2, 2), chars("a"),
		ofStruct(0, 1, 1), 0, ofList(0, 2, 2), chars("b"),
		1))
}

// P9.1: structs in a list stand one behind the other behind a tag, and what comes of them behind all of them, element by element.
func TestListsOfStructs(t *testing.T) {
	s := read(t, `struct T { x: u8 = 3; t: text; l: list<T>; } struct S { l: list<T>; d: data; } root S;`)
	none := api.Val{}
	wantForm(t, "no elements", s, there(none, raw("d")), message(ofStruct(0, 0, 2), 0, ofList(0, 2, 1), chars("d")))
	wantForm(t, "of defaults", s, there(times(2, there(num(3), raw(""), none)), raw("")), message(ofStruct(0, 0, 2), ofList(1, 7, 6), 0, tag(2, 1, 2), 0, 0, 0, 0, 0, 0))
	inner := many(there(num(5), raw("b"), none))
	v := there(many(there(num(4), raw("a"), inner), there(num(3), raw("c"), none), there(num(7), raw("d"), none)), raw("e"))
	wantForm(t, "of more", s, v, message(ofStruct(0, 0, 2), ofList(1, 7, 9), ofList(18, 2, 1),
		tag(3, 1, 2), 3^4, ofList(7, 2, 2), ofList(7, 7, 3), 0, ofList(10, 2, 2), 0, 3^7, ofList(8, 2, 2), 0, // 3
		chars("a"),                                        // 13
		tag(1, 1, 2), 3^5, ofList(1, 2, 2), 0, chars("b"), // 14
		chars("c"), chars("d"), // 19
		chars("e")))
}

// P9.1: structs without words of numbers, and without pointers.
func TestListsOfBareStructs(t *testing.T) {
	s := read(t, `struct P { d: data; } struct N { x: bool = true; y: u64; } struct S { p: list<P>; n: list<N>; q: list<list<P>>; } root S;`)
	v := there(many(there(raw("")), there(raw("a")), there(raw(""))), times(2, there(num(1), num(0))), api.Val{})
	wantForm(t, "either", s, v, message(ofStruct(0, 0, 3), ofList(2, 7, 3), ofList(6, 7, 4), 0, tag(3, 0, 1), 0, ofList(1, 2, 1), 0, chars("a"), tag(2, 2, 0), 0, 0, 0, 0))
	v = there(api.Val{}, many(there(num(0), num(9))), many(many(), many(there(raw(""))), many(there(raw("b")), there(raw("c")))))
	wantForm(t, "in lists", s, v, message(ofStruct(0, 0, 3), 0, ofList(1, 7, 2), ofList(3, 6, 3), tag(1, 2, 0), 9, 1,
		0, ofList(1, 7, 1), ofList(2, 7, 2), tag(1, 0, 1), 0, tag(2, 0, 1), ofList(1, 2, 1), ofList(1, 2, 1), chars("b"), chars("c")))
}

// P9.1: the whole is the schema's root, whichever struct that is.
func TestRoot(t *testing.T) {
	s := read(t, `struct A { x: u8; } struct B { a: A; t: text; } struct C { x: u64; } root B;`)
	wantForm(t, "the second", s, there(there(num(1)), raw("")), message(ofStruct(0, 0, 2), ofStruct(1, 1, 0), 0, 1))
	s.Root = 2
	wantForm(t, "the third", s, there(num(1)), message(ofStruct(0, 1, 0), 1))
}

// P9.1, P9.2: as deep as may be.
func TestDeepest(t *testing.T) {
	s := read(t, `struct S { s: S; l: list<list<list<u8>>>; r: list<S>; } root S;`)
	none := api.Val{}
	v, words := there(none, none, none), []uint64{0, 0, 0}
	for range api.MaxNest - 1 {
		v, words = there(v, none, none), append([]uint64{ofStruct(2, 0, 3), 0, 0}, words...)
	}
	wantForm(t, "structs", s, v, message(append([]uint64{ofStruct(0, 0, 3)}, words...)...))
	v, words = there(none, none, none), []uint64{0, 0, 0}
	for range api.MaxNest/2 - 1 {
		v, words = there(none, none, many(v)), append([]uint64{0, 0, ofList(0, 7, 3), tag(1, 0, 3)}, words...)
	}
	wantForm(t, "structs in lists", s, v, message(append([]uint64{ofStruct(0, 0, 3)}, words...)...))
	v, words = there(none, many(many(many(num(7)))), none), []uint64{0, ofList(1, 6, 1), 0, ofList(0, 6, 1), ofList(0, 2, 1), 7}
	for range api.MaxNest - 4 {
		v, words = there(v, none, none), append([]uint64{ofStruct(2, 0, 3), 0, 0}, words...)
	}
	wantForm(t, "lists in structs", s, v, message(append([]uint64{ofStruct(0, 0, 3)}, words...)...))
}

// P5, P9.2: however a value stands in a message, it has one form, and this is the form of the value as such.
func TestOneForm(t *testing.T) {
	s := read(t, `struct T { x: u8 = 3; t: text; } struct S { a: T; b: T; l: list<T>; n: list<list<bool>>; d: data; } root S;`)
	v := there(there(num(7), raw("ab")), there(num(7), raw("ab")), times(2, there(num(3), raw(""))), many(many(), many(num(1), num(0))), raw(""))
	want := message(ofStruct(0, 0, 5), ofStruct(4, 1, 1), ofStruct(6, 1, 1), ofList(8, 7, 4), ofList(12, 6, 2), 0,
		4, ofList(0, 2, 3), chars("ab"), 4, ofList(0, 2, 3), chars("ab"), tag(2, 1, 1), 0, 0, 0, 0, 0, ofList(0, 1, 2), 1)
	wantForm(t, "as such", s, v, want)
	for what, words := range map[string][]uint64{
		"one struct twice, a list of structs of no words, lists of nothing": {ofStruct(0, 0, 5), ofStruct(4, 1, 1), ofStruct(3, 1, 1), ofList(5, 7, 0), ofList(5, 6, 2), ofList(2, 2, 0),
			4, ofList(0, 2, 3), chars("ab"), // 6: the struct
			tag(2, 0, 0), ofList(1, 1, 0), ofList(0, 1, 2), 0xfd, 0, 0, 0, 0, 0, 0},
		"more words and pointers than fields, bits that belong to nothing": {ofStruct(1, 1, 6), 99, 98, ofStruct(5, 2, 2), ofStruct(9, 1, 2), ofList(11, 7, 8), ofList(19, 6, 2), 0, 99,
			0x0104, 77, ofList(1, 2, 3), 99, 0xffff_ffff_ff00_6261, 4, ofList(-3, 2, 3), 99, // 9: the structs
			tag(2, 3, 1), 0xff00, 1, 2, 0, 0x0300, 4, 0, 0, 0, ofList(0, 1, 2), 0xfffd},
		"the last ones first": {ofStruct(14, 0, 5), 1, 0, ofList(-3, 1, 2), tag(2, 0, 1), 0, 0, chars("ab"), 4, ofList(-3, 2, 3), 4, ofList(-5, 2, 3), 99, 99, 99,
			ofStruct(-8, 1, 1), ofStruct(-7, 1, 1), ofList(-14, 7, 2), ofList(-17, 6, 2), 0},
	} {
		x, e := capread.Read(s, []byte(message(words...)), wire.New(plenty))
		if e != api.OK {
			t.Errorf("%s: read: error %d", what, e)
			continue
		}
		if got := view.Tree(s, s.Root, x); !same(got, v) {
			t.Errorf("%s: read as %v", what, got)
		}
		if b, e := capwrite.Write(s, x, wire.New(plenty)); e != api.OK || string(b) != want {
			t.Errorf("%s: error %d\n%x, not\n%x", what, e, b, want)
		}
	}
}

// R8: the same again, with the same arguments.
func TestAgain(t *testing.T) {
	s := read(t, `struct S { t: list<text>; l: list<list<u8>>; } root S;`)
	v := view.Of(there(many(raw("a"), raw("bc")), many(many(num(1)))))
	first, _ := capwrite.Write(s, v, wire.New(plenty))
	for range 20 {
		if b, e := capwrite.Write(s, v, wire.New(plenty)); e != api.OK || !reflect.DeepEqual(b, first) {
			t.Errorf("error %d, %x, not %x", e, b, first)
		}
	}
}
