package flatread_test

import (
	"encoding/binary"
	"math"
	"testing"

	"transom/api"
)

// numbers: of each kind its size in bytes, and numbers of its.
var numbers = []struct {
	kind    string
	size    int
	numbers []int
}{
	{"bool", 1, []int{0, 1}},
	{"i8", 1, []int{0, -1, 1, math.MaxInt8, math.MinInt8}},
	{"i16", 2, []int{0, -1, 1, 255, 256, math.MaxInt16, math.MinInt16}},
	{"i32", 4, []int{0, -1, 1, 65535, math.MaxInt32, math.MinInt32}},
	{"i64", 8, []int{0, -1, 1, 1 << 32, math.MaxInt64, math.MinInt64}},
	{"u8", 1, []int{0, 1, 127, 128, 255}},
	{"u16", 2, []int{0, 1, 255, 256, 65535}},
	{"u32", 4, []int{0, 1, 1 << 16, math.MaxInt32, math.MaxUint32}},
	{"u64", 8, []int{0, 1, 1 << 32, math.MaxInt64, -1}},
	{"E", 1, []int{0, 1, 2}},
}

// sized: a number's lowest bytes.
func sized(n, size int) string {
	return string(binary.LittleEndian.AppendUint64(nil, uint64(n))[:size])
}

// P10.1: numbers of each kind, with their signs, as they stand: whatever their default is.
func TestNumbers(t *testing.T) {
	for _, x := range numbers {
		for _, def := range []string{"", " = 1"} {
			if x.kind == "bool" && def != "" {
				def = " = true"
			}
			if x.kind == "E" && def != "" {
				def = " = b"
			}
			s := read(t, "enum E { a, b, c } struct S { x: "+x.kind+def+"; } root S;")
			for _, n := range x.numbers {
				b := message(to("t"), at("l"), short(6, 4+x.size, 4), at("t"), from("l"), sized(n, x.size))
				wantValue(t, x.kind, s, b, there(num(n)))
				b = message(to("t"), at("l"), short(6, 10+x.size, 7), at("t"), from("l"), "\xff\xff\xff", sized(n, x.size), "\xff\xff\xff")
				wantValue(t, x.kind+" between others", s, b, there(num(n)))
			}
			b := message(to("t"), at("l"), short(4, 20), at("t"), from("l"), zeros(16))
			wantValue(t, x.kind+" that isn't there", s, b, there(num(len(def+"    ")/8)))
		}
	}
}

// P10.1: lists of numbers: elements of the numbers' sizes, with their signs, one behind the other.
func TestListsOfNumbers(t *testing.T) {
	for _, x := range numbers {
		s := read(t, "enum E { a, b, c } struct S { x: list<"+x.kind+">; } root S;")
		elements, want := "", api.Val{}
		for i := range 20 {
			b := message(to("t"), at("l"), short(6, 8, 4), at("t"), from("l"), to("n"), at("n"), long(i), elements)
			wantValue(t, x.kind, s, b, there(want))
			for k := range elements {
				wantNone(t, x.kind+" cut short", s, b[:len(b)-len(elements)+k])
			}
			n := x.numbers[i%len(x.numbers)]
			elements += sized(n, x.size)
			want.Kids = append(want.Kids, num(n))
		}
	}
}

// P10.1: bools are 0 or 1, enums places of values; in fields and in lists.
func TestNumbersThatAreNone(t *testing.T) {
	s := read(t, `enum E { a } enum F { a, b, c } struct S { x: bool; y: E; z: F; } root S;`)
	lists := read(t, `enum E { a } enum F { a, b, c } struct S { x: list<bool>; y: list<E>; z: list<F>; } root S;`)
	for field, most := range []int{1, 0, 2} {
		for n := range 256 {
			places, want := []int{0, 0, 0}, there(num(0), num(0), num(0))
			places[field], want.Kids[field] = 4, num(n)
			b := message(to("t"), at("l"), short(append([]int{10, 5}, places...)...), at("t"), from("l"), string([]byte{byte(n)}))
			wantEither(t, "a number of few", s, b, n <= most, want)
			want = there(many(), many(), many())
			want.Kids[field] = many(num(0), num(n), num(0))
			b = message(to("t"), at("l"), short(append([]int{10, 8}, places...)...), at("t"), from("l"), to("n"), at("n"), long(3), string([]byte{0, byte(n), 0}), zeros(2))
			wantEither(t, "numbers of few", lists, b, n <= most, want)
		}
	}
	names := ""
	for i := range api.MaxNames {
		names += ", a" + string(rune('a'+i%26)) + string(rune('a'+i/26))
	}
	s = read(t, "enum E { "+names[2:]+" } struct S { x: E; } root S;")
	for n := range 40 {
		b := message(to("t"), at("l"), short(6, 5, 4), at("t"), from("l"), string([]byte{byte(n)}))
		wantEither(t, "the largest enum", s, b, n < api.MaxNames, there(num(n)))
	}
}

// P10.1: what isn't there isn't asked, whatever would stand there.
func TestNumbersNotThere(t *testing.T) {
	s := read(t, `enum E { a, b } struct S { x: bool = true; y: E = b; } root S;`)
	b := message(to("t"), at("l"), short(4, 6), at("t"), from("l"), "\xff\xff")
	wantValue(t, "beyond the list's size", s, b, there(num(1), num(1)))
	b = message(to("t"), at("l"), short(8, 6, 0, 0), at("t"), from("l"), "\xff\xff")
	wantValue(t, "at place 0", s, b, there(num(1), num(1)))
}
