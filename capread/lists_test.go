package capread_test

import (
	"testing"

	"transom/api"
)

// P8.1: bytes are a list of code 2; a text has a byte 0 at its end, and UTF-8 ahead of it.
func TestBytes(t *testing.T) {
	for _, x := range []struct {
		bytes string // those of the list
		text  bool
	}{
		{"", false}, {"\x00", true}, {"a", false}, {"a\x00", true}, {"\x00a", false}, {"\x00\x00", true}, {"a\x00b\x00", true}, {"abcdefg\x00", true}, {"abcdefgh", false},
		{"é\x00", true}, {"é", false}, {"\xc3\x00", false}, {"\xa9\x00", false}, {"€\x00", true}, {"😀\x00", true}, {"\xf4\x8f\xbf\xbf\x00", true}, {"\xed\x9f\xbf\x00", true}, {"\xee\x80\x80\x00", true},
		{"\xff\x00", false}, {"\xc0\x80\x00", false}, {"\xed\xa0\x80\x00", false}, {"\xf4\x90\x80\x80\x00", false}, {"\xe0\x80\x80\x00", false}, {"ab\xe2\x82\x00", false},
	} {
		told := x.bytes[:max(0, len(x.bytes)-1)]
		s := read(t, `struct S { x: text; } root S;`)
		wantEither(t, "text "+x.bytes, s, message(ofStruct(0, 0, 1), ofList(0, 2, len(x.bytes)), chars(x.bytes)), x.text, there(raw(told)))
		s = read(t, `struct S { x: data; } root S;`)
		wantValue(t, "data "+x.bytes, s, message(ofStruct(0, 0, 1), ofList(0, 2, len(x.bytes)), chars(x.bytes)), there(raw(x.bytes)))
		s = read(t, `struct S { x: list<text>; } root S;`)
		wantEither(t, "text in a list "+x.bytes, s, message(ofStruct(0, 0, 1), ofList(0, 6, 2), 0, ofList(0, 2, len(x.bytes)), chars(x.bytes)), x.text, there(many(raw(""), raw(told))))
		s = read(t, `struct S { x: list<data>; } root S;`)
		wantValue(t, "data in a list "+x.bytes, s, message(ofStruct(0, 0, 1), ofList(0, 6, 2), 0, ofList(0, 2, len(x.bytes)), chars(x.bytes)), there(many(raw(""), raw(x.bytes))))
	}
}

// P8.1: a text's byte 0 is the last one of its list, not of its word.
func TestTextsEnd(t *testing.T) {
	s := read(t, `struct S { x: text; } root S;`)
	for count := range 9 {
		b := message(ofStruct(0, 0, 1), ofList(0, 2, count), chars("ab\x00cd\x00ef"))
		wantEither(t, "a text", s, b, count == 3 || count == 6, there(raw("ab\x00cd\x00ef"[:max(0, count-1)])))
	}
}

// P8.1: elements of a list of pointers are asked as fields are.
func TestListsOfPointers(t *testing.T) {
	s := read(t, `struct S { x: list<list<list<u16>>>; } root S;`)
	words := func(inner uint64) []byte {
		return message(ofStruct(0, 0, 1), ofList(0, 6, 2), 0, ofList(0, 6, 3), inner, 0, ofList(0, 3, 2), 0xffff_0001)
	}
	last := many(num(1), num(65535))
	wantValue(t, "as it is", s, words(0), there(many(api.Val{}, many(api.Val{}, api.Val{}, last))))
	wantValue(t, "one twice", s, words(ofList(2, 3, 2)), there(many(api.Val{}, many(last, api.Val{}, last))))
	wantValue(t, "an empty one", s, words(ofList(3, 3, 0)), there(many(api.Val{}, many(api.Val{}, api.Val{}, last))))
	wantNone(t, "an empty one of another code", s, words(ofList(3, 2, 0)))
	wantNone(t, "an empty one out of the words", s, words(ofList(4, 3, 0)))
	wantNone(t, "a struct", s, words(ofStruct(2, 1, 0)))
	wantNone(t, "no pointer", s, words(2))
}

// structs: a message with a list of T { x: u8; y: u64; } of a tag, as words behind it say.
func structs(count int, tag uint64, words ...uint64) []byte {
	return message(append([]uint64{ofStruct(0, 0, 1), ofList(0, 7, count), tag}, words...)...)
}

// P8.1: a list of structs: its tag, and that all together are just count words.
func TestListsOfStructs(t *testing.T) {
	s := read(t, `struct T { x: u8 = 1; y: u64; t: text; } struct S { l: list<T>; } root S;`)
	t1, t2 := there(api.Val{}), there(api.Val{})
	t1.Kids = []api.Val{num(2), num(7), {}}
	t2.Kids = []api.Val{num(5), num(8), {}}
	wantValue(t, "as it is", s, structs(4, tag(2, 2, 0), 7, 3, 8, 4), there(many(t1, t2)))
	wantValue(t, "with pointers", s, structs(6, tag(2, 2, 1), 7, 3, 0, 8, 4, 0), there(many(t1, t2)))
	wantValue(t, "one", s, structs(2, tag(1, 2, 0), 7, 3), there(many(t1)))
	wantValue(t, "none", s, structs(0, tag(0, 2, 3), 7, 3), there(api.Val{}))
	wantNone(t, "none, and words", s, structs(1, tag(0, 2, 3), 7, 3))
	for count := range 7 {
		if count != 4 {
			wantNone(t, "more or fewer words", s, structs(count, tag(2, 2, 0), 7, 3, 8, 4, 9, 9))
			wantNone(t, "more or fewer words", s, structs(count, tag(2, 1, 1), 7, 0, 8, 0, 9, 9))
		}
	}
	for low := uint64(1); low < 4; low++ {
		wantNone(t, "a tag that is no struct's", s, structs(4, tag(2, 2, 0)|low, 7, 3, 8, 4))
	}
	wantNone(t, "no room for a tag", s, message(ofStruct(0, 0, 1), ofList(0, 7, 0)))
	wantNone(t, "no room behind the tag", s, structs(4, tag(2, 2, 0), 7, 3, 8))
	wantNone(t, "a null tag, and words", s, structs(2, 0, 7, 3))
	wantValue(t, "a null tag", s, structs(0, 0), there(api.Val{}))
	wantNone(t, "an element that isn't right", s, structs(6, tag(2, 2, 1), 7, 3, 0, 8, 4, 2))
	wantNone(t, "an element that isn't right", s, structs(6, tag(2, 2, 1), 7, 3, ofList(3, 2, 0), 8, 4, 0))
	text := structs(7, tag(1, 2, 5), 7, 3, ofList(1, 2, 2), 2, chars("a"), 2, 2)
	t1.Kids[2] = raw("a")
	wantValue(t, "an element's text within the element", s, text, there(many(t1)))
}

// P8.1: of structs of no words there are as many as may be reached, and fewer than 2^29.
func TestStructsOfNothing(t *testing.T) {
	s := read(t, `struct T { x: u8 = 1; } struct S { l: list<T>; } root S;`)
	for spare := range 5 {
		for count := range 8 {
			var l []api.Val
			for range count {
				l = append(l, there(num(1)))
			}
			wantEither(t, "structs of nothing", s, structs(0, tag(count, 0, 0), make([]uint64, spare)...), 2+count <= 3+spare, there(many(l...)))
		}
	}
	for _, count := range []int{1 << 16, 1<<29 - 1, 1 << 29, 1<<29 + 1, 1<<30 - 1} {
		for size := range 2 {
			wantNone(t, "far too many", s, structs(0, tag(count, size, 0), make([]uint64, 100)...))
			wantNone(t, "far too many", s, structs(size, tag(count, size, 0), make([]uint64, 100)...))
		}
	}
}

// P8.1: structs in lists of lists.
func TestListsOfListsOfStructs(t *testing.T) {
	s := read(t, `struct T { x: u8; } struct S { l: list<list<T>>; } root S;`)
	b := message(ofStruct(0, 0, 1), ofList(0, 6, 3), ofList(2, 7, 2), 0, ofList(3, 7, 1), tag(2, 1, 0), 5, 6, tag(1, 1, 0), 7)
	wantValue(t, "as it is", s, b, there(many(many(there(num(5)), there(num(6))), api.Val{}, many(there(num(7))))))
	b = message(ofStruct(0, 0, 1), ofList(0, 7, 3), tag(3, 0, 1), 0, 0, 0)
	wantNone(t, "structs, where lists are wanted", s, b)
}
