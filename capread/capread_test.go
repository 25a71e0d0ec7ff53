package capread_test

import (
	"bytes"
	"encoding/binary"
	"math"
	"reflect"
	"testing"

	"transom/api"
	"transom/capread"
	"transom/schema"
	"transom/view"
	"transom/wire"
)

// read: a text's schema.
func read(t *testing.T, text string) api.Schema {
	t.Helper()
	s, fault := schema.Read(text)
	if fault != (api.Fault{}) {
		t.Fatalf("%s: %v", text, fault)
	}
	return s
}

// plenty: more than any message here may want.
const plenty = 1 << 30

// message: words behind the head that tells how many they are.
func message(words ...uint64) []byte {
	b := binary.LittleEndian.AppendUint32(make([]byte, 4), uint32(len(words)))
	for _, w := range words {
		b = binary.LittleEndian.AppendUint64(b, w)
	}
	return b
}

// Words are written by these: pointers with an offset, a tag, bytes as a list of code 2 has them (no more than a word).
func ofStruct(offset, nums, ptrs int) uint64 {
	return uint64(uint32(offset<<2)) | uint64(nums)<<32 | uint64(ptrs)<<48
}
func ofList(offset, code, count int) uint64 {
	return uint64(uint32(offset<<2)) | 1 | uint64(code)<<32 | uint64(count)<<35
}
func tag(count, nums, ptrs int) uint64 { return ofStruct(count, nums, ptrs) }
func chars(text string) uint64 {
	var b [8]byte
	copy(b[:], text)
	return binary.LittleEndian.Uint64(b[:])
}

// Values are written by these.
func num(n int) api.Val               { return api.Val{Num: uint64(n)} }
func raw(text string) api.Val         { return api.Val{Bytes: []byte(text)} }
func many(kids ...api.Val) api.Val    { return api.Val{Kids: kids} }
func there(fields ...api.Val) api.Val { return api.Val{Has: true, Kids: fields} }

// bareOf: the value with nil for what is empty.
func bareOf(v api.Val) api.Val {
	out := api.Val{Num: v.Num, Has: v.Has, Bytes: append([]byte(nil), v.Bytes...)}
	for _, kid := range v.Kids {
		out.Kids = append(out.Kids, bareOf(kid))
	}
	return out
}

// same: are they one value?
func same(a, b api.Val) bool { return reflect.DeepEqual(bareOf(a), bareOf(b)) }

// wantValue checks that a message denotes a value, and that Read leaves it as it is.
func wantValue(t *testing.T, what string, s api.Schema, b []byte, want api.Val) {
	t.Helper()
	was := bytes.Clone(b)
	v, e := capread.Read(s, b, wire.New(plenty))
	if e != api.OK {
		t.Errorf("%q: error %d", what, e)
		return
	}
	if got := view.Tree(s, s.Root, v); !same(got, want) {
		t.Errorf("%q: %v, not %v", what, got, want)
	}
	if !bytes.Equal(b, was) {
		t.Errorf("%q: the message was changed", what)
	}
}

// wantNone checks that a message denotes nothing.
func wantNone(t *testing.T, what string, s api.Schema, b []byte) {
	t.Helper()
	if v, e := capread.Read(s, b, wire.New(plenty)); e != api.ErrMalformed || v != nil {
		t.Errorf("%q: %v, error %d", what, v, e)
	}
}

// wantEither checks one or the other.
func wantEither(t *testing.T, what string, s api.Schema, b []byte, ok bool, want api.Val) {
	t.Helper()
	if ok {
		wantValue(t, what, s, b, want)
	} else {
		wantNone(t, what, s, b)
	}
}

// P8.1: the chapter's examples.
func TestExamples(t *testing.T) {
	s := read(t, `struct S { x: u8 = 3; } root S;`)
	b := []byte("\x00\x00\x00\x00\x02\x00\x00\x00" + "\x00\x00\x00\x00\x01\x00\x00\x00" + "\x04\x00\x00\x00\x00\x00\x00\x00")
	wantValue(t, "x is 7", s, b, there(num(7)))
	copy(b[8:], make([]byte, 8))
	wantNone(t, "null", s, b)
	copy(b[8:], "\xfc\xff\xff\xff\x00\x00\x00\x00")
	wantValue(t, "a struct of nothing", s, b, there(num(3)))
}

// P8.1: a message's head, and how long it is.
func TestHead(t *testing.T) {
	s := read(t, `struct S { x: u8 = 3; } root S;`)
	good := message(ofStruct(0, 1, 0), 4)
	wantValue(t, "good", s, good, there(num(7)))
	for i := range good {
		wantNone(t, "cut short", s, good[:i])
	}
	wantNone(t, "a byte behind", s, append(bytes.Clone(good), 0))
	wantNone(t, "a word behind", s, append(bytes.Clone(good), make([]byte, 8)...))
	for at := range 4 {
		b := bytes.Clone(good)
		b[at] = 1
		wantNone(t, "not 0 ahead", s, b)
	}
	for _, count := range []uint32{0, 1, 3, 4, 1 << 8, 1 << 24, 1<<29 + 2, 1 << 31, math.MaxUint32} {
		b := bytes.Clone(good)
		binary.LittleEndian.PutUint32(b[4:], count)
		wantNone(t, "another number of words", s, b)
	}
	wantNone(t, "no words", s, make([]byte, 8))
	wantValue(t, "one word", s, message(ofStruct(-1, 0, 0)), there(num(3)))
}

// P8.1: MaxInput.
func TestLongest(t *testing.T) {
	s := read(t, `struct S { x: u8 = 3; } root S;`)
	const most = api.MaxInput/8 - 1
	words := make([]uint64, most+1)
	words[0], words[1] = ofStruct(most-2, 1, 0), 9
	words[most-1] = 4
	wantValue(t, "just so long", s, message(words[:most]...), there(num(7)))
	long := message(words...)
	wantNone(t, "a word longer", s, long)
	for _, m := range []*wire.Meter{nil, wire.New(0)} { // R2: this error is asked for ahead of the budget
		if v, e := capread.Read(s, long, m); e != api.ErrMalformed || v != nil {
			t.Errorf("too long, and no budget: %d", e)
		}
	}
	wantNone(t, "far too long", s, make([]byte, 1<<20))
}

// P8.1: the pointer in word 0 is a struct's, not null.
func TestRoot(t *testing.T) {
	s := read(t, `struct S { x: u8 = 3; } root S;`)
	wantNone(t, "null", s, message(0, 4))
	for code := range 8 {
		wantNone(t, "a list", s, message(ofList(0, code, 0), 4))
	}
	for low := range uint64(4) {
		wantEither(t, "a pointer's kind", s, message(ofStruct(0, 1, 0)|low, 4), low == 0, there(num(7)))
	}
	s = read(t, `struct T { x: u8; } struct S { x: u8 = 3; y: u16 = 5; } root S;`)
	wantValue(t, "the root is another than the first", s, message(ofStruct(0, 1, 0), 0x040000), there(num(7), num(5)))
}
