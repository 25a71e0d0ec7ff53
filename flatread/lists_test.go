package flatread_test

import (
	"math"
	"testing"

	"transom/api"
)

// one: a message of a struct of one field, that points to what a list of parts tells.
func one(l ...any) []byte {
	return message(parts([]any{to("t"), at("l"), short(6, 8, 4), at("t"), from("l"), to("x"), at("x")}, l)...)
}

// twice: a message of a struct with a list of two elements that both point to what a list of parts tells.
func twice(l ...any) []byte {
	return message(parts([]any{to("t"), at("l"), short(6, 8, 4), at("t"), from("l"), to("n"), at("n"), long(2), to("x"), to("x"), at("x")}, l)...)
}

// P10.1: bytes: how many, and they; of a text UTF-8, and a byte 0 behind them.
func TestBytes(t *testing.T) {
	text, data := read(t, `struct S { x: text; } root S;`), read(t, `struct S { x: data; } root S;`)
	texts, datas := read(t, `struct S { x: list<text>; } root S;`), read(t, `struct S { x: list<data>; } root S;`)
	for _, x := range []struct {
		bytes string
		utf8  bool
	}{
		{"", true}, {"a", true}, {"\x00", true}, {"a\x00b", true}, {"abcdefgh", true}, {"é", true}, {"€", true}, {"😀", true}, {"\xf4\x8f\xbf\xbf", true}, {"\xed\x9f\xbf", true}, {"\xee\x80\x80", true},
		{"\xff", false}, {"\xc3", false}, {"\xa9", false}, {"\xc0\x80", false}, {"\xed\xa0\x80", false}, {"\xf4\x90\x80\x80", false}, {"\xe0\x80\x80", false}, {"ab\xe2\x82", false},
	} {
		told := there(raw(x.bytes))
		wantEither(t, "text "+x.bytes, text, one(long(len(x.bytes)), x.bytes, "\x00"), x.utf8, told)
		wantNone(t, "text without a byte behind "+x.bytes, text, one(long(len(x.bytes)), x.bytes))
		wantNone(t, "text without a byte 0 behind "+x.bytes, text, one(long(len(x.bytes)), x.bytes, "\x01\x00"))
		wantValue(t, "data "+x.bytes, data, one(long(len(x.bytes)), x.bytes), told)
		wantValue(t, "data with something behind "+x.bytes, data, one(long(len(x.bytes)), x.bytes, "\xff"), told)
		wantNone(t, "data cut short "+x.bytes, data, one(long(len(x.bytes)+1), x.bytes))
		told = there(many(raw(x.bytes), raw(x.bytes)))
		wantEither(t, "texts "+x.bytes, texts, twice(long(len(x.bytes)), x.bytes, "\x00", zeros(30)), x.utf8, told)
		wantNone(t, "texts without a byte 0 behind "+x.bytes, texts, twice(long(len(x.bytes)), x.bytes, "\x01", zeros(30)))
		wantValue(t, "data in a list "+x.bytes, datas, twice(long(len(x.bytes)), x.bytes, zeros(30)), told)
	}
}

// P10.1: how many bytes, or elements, there are, as a number without sign: within the message.
func TestCounts(t *testing.T) {
	for _, x := range []struct {
		field string
		size  int // of an element
		more  int // bytes behind
		kid   api.Val
	}{
		{"text", 1, 1, raw("")}, {"data", 1, 0, raw("")}, {"list<bool>", 1, 0, num(0)}, {"list<i8>", 1, 0, num(0)}, {"list<E>", 1, 0, num(0)}, {"list<u16>", 2, 0, num(0)},
		{"list<i32>", 4, 0, num(0)}, {"list<u64>", 8, 0, num(0)}, {"list<data>", 4, 0, raw("")}, {"list<list<u64>>", 4, 0, many()},
	} {
		s := read(t, "enum E { a } struct S { x: "+x.field+"; } root S;")
		for count := range 50 {
			b := one(long(count), zeros(64))
			want := there(api.Val{})
			for range count {
				want.Kids[0].Kids = append(want.Kids[0].Kids, x.kid)
			}
			if x.field == "text" || x.field == "data" {
				want = there(raw(zeros(count)))
			}
			reached := 6 + 8 + 4 + count*x.size + x.more
			if x.field == "list<data>" || x.field == "list<list<u64>>" {
				reached += 4 * count
			}
			wantEither(t, x.field, s, b, reached <= len(b) && count*x.size+x.more <= 64, want)
		}
		for _, count := range []int{65, 1 << 8, 1 << 16, 1 << 29, 1<<29 + 1, 1 << 30, 1 << 31, 1<<31 + 1, math.MaxUint32, math.MaxUint32 - 1} {
			wantNone(t, x.field, s, one(long(count), zeros(64)))
		}
		for n := range 4 {
			wantNone(t, x.field, s, one(zeros(n)))
		}
	}
}

// P10.1: where a place points: to itself and on, up to the message's length.
func TestPlacesThatPoint(t *testing.T) {
	s := read(t, `struct S { x: data; } root S;`)
	good := func(n int) []byte {
		return message(to("t"), at("l"), short(6, 8, 4), at("t"), from("l"), long(n), long(1<<30), long(1), "abc")
	}
	for n := range 30 {
		switch n {
		case 0, 1, 2, 3: // to itself, and into itself
			wantValue(t, "to 4 bytes 0", s, good(n), there(raw("")))
		case 8:
			wantValue(t, "to the bytes", s, good(n), there(raw("a")))
		case 7:
			wantNone(t, "ahead of the bytes", s, good(n))
		default:
			wantNone(t, "elsewhere", s, good(n))
		}
	}
	for _, n := range []int{1 << 8, 1<<16 + 8, 1<<24 + 8, 1 << 31, 1<<31 + 8, math.MaxUint32, math.MaxUint32 - 3, math.MaxUint32 - 13} {
		wantNone(t, "outside", s, good(n))
	}
	s = read(t, `struct S { x: S; } root S;`)
	for n := range 30 {
		wantNone(t, "a struct that isn't one", s, message(to("t"), at("l"), short(6, 8, 4), at("t"), from("l"), long(n), zeros(20)))
	}
	s = read(t, `struct S { x: list<u8>; } root S;`)
	wantValue(t, "a list at its own place", s, message(to("t"), at("l"), short(6, 8, 4), at("t"), from("l"), long(0)), there(many()))
	s = read(t, `struct S { x: text; } root S;`)
	wantValue(t, "a text at its own place", s, message(to("t"), at("l"), short(6, 8, 4), at("t"), from("l"), long(0), "\x00"), there(raw("")))
	wantNone(t, "a text at its own place, and nothing behind", s, message(to("t"), at("l"), short(6, 8, 4), at("t"), from("l"), long(0)))
}

// P10.1: lists of lists: elements point, each from its own place.
func TestListsOfLists(t *testing.T) {
	s := read(t, `struct S { x: list<list<list<u16>>>; } root S;`)
	inner := []any{at("n"), long(2), short(1, 65535), at("o"), long(0)}
	b := one(parts([]any{long(2), to("a"), to("b"), at("a"), long(3), to("n"), to("o"), to("n"), at("b"), long(0)}, inner, []any{zeros(8)})...)
	last := many(num(1), num(65535))
	wantValue(t, "lists of lists", s, b, there(many(many(last, many(), last), many())))
	wantNone(t, "as much cut off as isn't reached, and a byte more", s, b[:len(b)-5])
	b = one(long(2), to("a"), long(1<<20), at("a"), long(0), zeros(10))
	wantNone(t, "an element that points outside", s, b)
	b = one(long(2), to("a"), to("b"), at("a"), long(0), at("b"), long(1), long(1<<20), zeros(10))
	wantNone(t, "an element's element that points outside", s, b)
}

// P10.1: lists of structs: elements point to tables.
func TestListsOfStructs(t *testing.T) {
	s := read(t, `struct T { x: u8 = 3; } struct S { x: list<T>; } root S;`)
	tables := []any{at("m"), short(6, 5, 4), at("o"), short(4, 4), at("a"), from("m"), "\x07", at("b"), from("o"), at("c"), from("m"), "\x08"}
	wantValue(t, "structs", s, one(parts([]any{long(3), to("a"), to("b"), to("c")}, tables, []any{zeros(8)})...), there(many(there(num(7)), there(num(3)), there(num(8)))))
	wantValue(t, "one twice", s, one(parts([]any{long(3), to("c"), to("b"), to("c")}, tables, []any{zeros(8)})...), there(many(there(num(8)), there(num(3)), there(num(8)))))
	wantValue(t, "none", s, one(long(0)), there(many()))
	wantNone(t, "one that is none", s, one(parts([]any{long(3), to("a"), to("b"), to("m")}, tables, []any{zeros(8)})...))
	wantNone(t, "one outside", s, one(parts([]any{long(3), to("a"), to("b"), long(1 << 16)}, tables, []any{zeros(8)})...))
	wantNone(t, "one at its own place", s, one(long(1), long(0), zeros(30)))
	s = read(t, `struct T { x: u8 = 3; } struct S { x: list<list<T>>; } root S;`)
	b := one(parts([]any{long(2), to("p"), to("q"), at("p"), long(2), to("a"), to("b"), at("q"), long(1), to("c")}, tables, []any{zeros(8)})...)
	wantValue(t, "in lists of lists", s, b, there(many(many(there(num(7)), there(num(3))), many(there(num(8))))))
}
