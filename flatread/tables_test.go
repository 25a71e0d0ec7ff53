package flatread_test

import (
	"bytes"
	"encoding/binary"
	"math"
	"testing"

	"transom/api"
)

// P10.1: a table's list stands anywhere in the message, within the table too.
func TestTablesList(t *testing.T) {
	s := read(t, small)
	seven := there(num(7))
	wantValue(t, "ahead", s, message(to("t"), at("l"), short(6, 5, 4), at("t"), from("l"), "\x07"), seven)
	wantValue(t, "behind", s, message(to("t"), at("t"), from("l"), "\x07", at("l"), short(6, 5, 4)), seven)
	wantValue(t, "at odd places", s, message(to("t"), "-", at("l"), short(6, 5, 4), "--", at("t"), from("l"), "\x07"), seven)
	wantValue(t, "within the table", s, message(to("t"), at("t"), from("l"), "\x07", at("l"), short(6, 11, 4), "----"), seven)
	wantValue(t, "with the field in it", s, message(to("t"), at("t"), from("l"), at("l"), short(6, 5, 4), "-"), there(num(6)))
	wantValue(t, "with the table's first bytes as the field's place", s, message(to("t"), at("l"), short(6, 5), at("t"), from("l"), "\x07"), seven)
	wantNone(t, "at the root's place", s, message(at("l"), long(6), short(4), at("t"), from("l"), "\x07"))
	wantNone(t, "at the table", s, message(to("t"), at("t"), long(0), short(6, 5, 4)))
	good := message(to("t"), at("l"), short(6, 5, 4), at("t"), from("l"), "\x07", zeros(20))
	for back := -30; back <= 30; back++ {
		b := bytes.Clone(good)
		binary.LittleEndian.PutUint32(b[10:], uint32(back))
		wantEither(t, "another place", s, b, back == 6, seven)
	}
	for _, back := range []uint32{1 << 31, 1<<31 + 6, math.MaxInt32, math.MaxUint32, 1<<24 + 6, 1<<16 + 6} {
		b := bytes.Clone(good)
		binary.LittleEndian.PutUint32(b[10:], back)
		wantNone(t, "a place outside", s, b)
	}
}

// P10.1: a list's size: even, 4 at least, within the message; fields beyond it are their defaults.
func TestListsSize(t *testing.T) {
	s := read(t, `struct S { x: u8 = 3; y: u8 = 4; z: data; } root S;`)
	for size := range 30 {
		want := there(num(3), num(4), raw(""))
		if size > 4 {
			want.Kids[0] = num(7)
		}
		if size > 6 {
			want.Kids[1] = num(8)
		}
		b := message(to("t"), at("t"), from("l"), "\x07\x08", at("l"), short(size, 6, 4, 5), zeros(10))
		wantEither(t, "a list of another size", s, b, size%2 == 0 && size >= 4 && 10+size <= len(b), want)
	}
	for _, size := range []int{1<<8 + 8, 1<<15 + 8, 1<<16 - 2, 1<<16 - 1} {
		wantNone(t, "far too large", s, message(to("t"), at("l"), short(size, 6, 4, 5), at("t"), from("l"), "\x07\x08", zeros(100)))
	}
	b := message(to("t"), at("t"), from("l"), "\x07\x08", at("l"), short(1<<13, 6, 4, 5), zeros(1<<13-8))
	wantValue(t, "large", s, b, there(num(7), num(8), raw("")))
	for _, l := range []string{"", "\x04", short(4), short(4) + "\x04"} {
		wantNone(t, "no room for its sizes", s, message(to("t"), at("t"), from("l"), at("l"), l))
	}
}

// P10.1: places beyond the fields are left out.
func TestPlacesBeyondTheFields(t *testing.T) {
	s := read(t, small)
	for _, n := range []int{0, 1, 3, 4, 5, 1 << 15, 1<<16 - 1} {
		b := message(to("t"), at("l"), short(10, 5, 4, n, n), at("t"), from("l"), "\x07")
		wantValue(t, "places beyond", s, b, there(num(7)))
	}
}

// P10.1: a table's size: 4 at least, within the message, and with all fields in it.
func TestTablesSize(t *testing.T) {
	s := read(t, small)
	for size := range 30 {
		b := message(to("t"), at("l"), short(6, size, 4), at("t"), from("l"), "\x07", zeros(6))
		wantEither(t, "a table of another size", s, b, size >= 5 && 10+size <= len(b), there(num(7)))
		b = message(to("t"), at("l"), short(6, size, 0), at("t"), from("l"), "\x07", zeros(6))
		wantEither(t, "without fields", s, b, size >= 4 && 10+size <= len(b), there(num(3)))
	}
	for _, size := range []int{1<<8 + 5, 1<<15 + 5, 1<<16 - 1} {
		wantNone(t, "far too large", s, message(to("t"), at("l"), short(6, size, 4), at("t"), from("l"), "\x07", zeros(100)))
	}
	b := message(to("t"), at("l"), short(6, 16000, 15999), at("t"), from("l"), zeros(15995), "\x07")
	wantValue(t, "large", s, b, there(num(7)))
	for n := range 4 {
		wantNone(t, "no room for its first bytes", s, message(to("t"), at("l"), short(4, 4), at("t"), string("\x04\x00\x00\x00"[:n])))
	}
}

// P10.1: where fields stand: behind the table's first 4 bytes, and within its size, whatever their size; 0: the default.
func TestFieldsPlaces(t *testing.T) {
	for _, x := range []struct {
		field string
		size  int
		def   api.Val
	}{
		{"u8 = 9", 1, num(9)}, {"i8 = 9", 1, num(9)}, {"bool = true", 1, num(1)}, {"E = b", 1, num(1)}, {"u16 = 9", 2, num(9)}, {"i16 = 9", 2, num(9)},
		{"u32 = 9", 4, num(9)}, {"i32 = 9", 4, num(9)}, {"u64 = 9", 8, num(9)}, {"i64 = 9", 8, num(9)},
		{"data", 4, raw("")}, {"text", 4, raw("")}, {"list<u64>", 4, many()}, {"list<S>", 4, many()},
	} {
		s := read(t, "enum E { a, b } struct S { x: "+x.field+"; } root S;")
		for size := 4; size < 20; size++ {
			for place := range 24 {
				b := message(to("t"), at("l"), short(6, size, place), at("t"), from("l"), zeros(30))
				want := there(api.Val{})
				if place == 0 {
					want.Kids[0] = x.def
				}
				wantEither(t, x.field, s, b, place == 0 || place >= 4 && place+x.size <= size, want)
			}
		}
		for _, place := range []int{1 << 8, 1 << 15, 1<<16 - 4, 1<<16 - 1} {
			wantNone(t, x.field, s, message(to("t"), at("l"), short(6, 20, place), at("t"), from("l"), zeros(30)))
		}
	}
	s := read(t, `struct T { x: u8; } struct S { s: T; } root S;`)
	for size := 4; size < 20; size++ {
		for place := range 24 {
			b := message(to("t"), at("l"), short(6, size, place), at("t"), from("l"), zeros(max(0, place-4)), to("u"), zeros(20), at("m"), short(4, 4), at("u"), from("m"))
			want := there(there(num(0)))
			if place == 0 {
				want.Kids[0] = api.Val{}
			}
			wantEither(t, "a struct", s, b, place == 0 || place >= 4 && place+4 <= size, want)
		}
	}
}

// P10.1: fields may stand in one another.
func TestFieldsInOneAnother(t *testing.T) {
	s := read(t, `struct S { a: u32; b: u16; c: u8; d: data; e: text; f: i8; } root S;`)
	b := message(to("t"), at("l"), short(16, 8, 4, 5, 7, 4, 4, 6), at("t"), from("l"), to("d"), at("d"), long(2), "ab\x00", zeros(2))
	wantValue(t, "fields in one another", s, b, there(num(4), num(0), num(0), raw("ab"), raw("ab"), num(0)))
	b = message(to("t"), at("l"), short(8, 8, 4, 5), at("t"), from("l"), "\x01\x02\xff\xfe")
	wantValue(t, "fields in one another", s, b, there(num(0xfeff0201), num(0xff02), num(0), raw(""), raw(""), num(0)))
}

// P10.1: a list of places that two tables have, and tables in one another.
func TestTablesTogether(t *testing.T) {
	s := read(t, `struct S { x: u8; s: S; } root S;`)
	b := message(to("t"), at("l"), short(8, 9, 8, 4), at("t"), from("l"), to("u"), "\x05", at("m"), short(6, 5, 4), at("u"), from("l"), to("v"), "\x06", at("v"), from("m"), "\x07", zeros(4))
	wantValue(t, "one list of two tables", s, b, there(num(5), there(num(6), there(num(7), api.Val{}))))
	b = message(to("t"), at("l"), short(8, 13, 12, 4), at("m"), short(6, 5, 4), at("t"), from("l"), to("u"), at("u"), from("m"), "\x05", zeros(3))
	wantValue(t, "one in another", s, b, there(num(5), there(num(5), api.Val{})))
	b = message(to("t"), at("l"), short(8, 8, 4, 4), at("m"), short(6, 5, 4), at("t"), from("l"), to("u"), at("u"), from("m"), "\x07")
	wantValue(t, "its place as a number", s, b, there(num(4), there(num(7), api.Val{})))
}
