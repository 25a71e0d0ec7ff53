package capread_test

import (
	"math"
	"testing"

	"transom/api"
)

// numbers: a field of each kind, with defaults.
const numbers = `
	enum E { a, b, c }
	struct S {
		b: bool = true; i8: i8 = -1; i16: i16 = -2; i32: i32 = -3; i64: i64 = -4;
		u8: u8 = 5; u16: u16 = 6; u32: u32 = 7; u64: u64 = 8; e: E = b;
	}
	root S;
`

// placed: of each field of S its default, its first bit, how many it has, and numbers of its.
var placed = []struct {
	def, at, width int
	numbers        []int
}{
	{1, 256, 1, []int{0, 1}},
	{-1, 240, 8, []int{0, -1, 1, 127, -128}},
	{-2, 192, 16, []int{0, -1, 1, 255, 256, math.MaxInt16, math.MinInt16}},
	{-3, 128, 32, []int{0, -1, 1, 65535, math.MaxInt32, math.MinInt32}},
	{-4, 0, 64, []int{0, -1, 1, 1 << 32, math.MaxInt64, math.MinInt64}},
	{5, 248, 8, []int{0, 1, 127, 128, 255}},
	{6, 208, 16, []int{0, 1, 255, 256, 65535}},
	{7, 160, 32, []int{0, 1, 1 << 16, math.MaxInt32, math.MaxUint32}},
	{8, 64, 64, []int{0, 1, 1 << 32, math.MaxInt64, -1}},
	{1, 224, 16, []int{0, 1, 2}},
}

// put: a number's lowest bits, from a bit on.
func put(words []uint64, at, width int, n uint64) {
	for i := range width {
		words[(at+i)/64] &^= 1 << ((at + i) % 64)
		words[(at+i)/64] |= n >> i & 1 << ((at + i) % 64)
	}
}

// whole: as many words of numbers, that are all 0 but for a field's, and what they say.
func whole(nums, field, n int) ([]uint64, api.Val) {
	const most = 5
	words := make([]uint64, most)
	put(words, placed[field].at, placed[field].width, uint64(n)^uint64(placed[field].def))
	v := there()
	for _, x := range placed {
		v.Kids = append(v.Kids, num(x.def))
	}
	if placed[field].at+placed[field].width <= 64*nums {
		v.Kids[field] = num(n)
	}
	return words[:min(nums, most)], v
}

// P8.1: numbers of each kind, exclusive or with their defaults, with their signs; those that don't lie within a struct's words are their defaults.
func TestNumbers(t *testing.T) {
	s := read(t, numbers)
	for field, x := range placed {
		for _, n := range x.numbers {
			for nums := range 7 {
				words, want := whole(nums, field, n)
				words = append([]uint64{ofStruct(0, nums, 0)}, words...)
				for len(words) < 1+nums {
					words = append(words, math.MaxUint64)
				}
				if nums == 0 {
					words[0] = ofStruct(-1, 0, 0)
				}
				wantValue(t, s.Structs[0].Fields[field].Name, s, message(words...), want)
			}
		}
	}
}

// P8.1: numbers of enums are places of values.
func TestEnums(t *testing.T) {
	s := read(t, numbers)
	for _, n := range []int{3, 4, 255, 256, 257, 258, 1 << 15, 65535} {
		for nums := range 5 {
			words, want := whole(nums, 9, n)
			words = append([]uint64{ofStruct(-1, nums, 0)}, words...)
			if nums > 0 {
				words[0] = ofStruct(0, nums, 0)
			}
			wantEither(t, "an enum's number that is no value's", s, message(words...), nums < 4, want)
		}
	}
	s = read(t, `enum E { a } enum F { a, b, c } struct S { l: list<F>; m: list<E>; } root S;`)
	for n := range 5 {
		for at := range 5 {
			word := uint64(n) << (16 * at % 64)
			v := make([]api.Val, 4)
			v[at%4] = num(n)
			wantEither(t, "in a list", s, message(ofStruct(0, 0, 2), ofList(1, 3, 4), 0, word), n < 3, there(many(v...), api.Val{}))
			wantEither(t, "of one value, in a list", s, message(ofStruct(0, 0, 2), 0, ofList(0, 3, 4), word), n < 1, there(api.Val{}, many(v...)))
			if at == 4 {
				wantValue(t, "behind the list", s, message(ofStruct(0, 0, 2), ofList(1, 3, 4), 0, 0, word+7), there(many(make([]api.Val, 4)...), api.Val{}))
			}
		}
	}
}

// P8.1: a list of numbers has the code of its elements' bits, which are told with their signs.
func TestListsOfNumbers(t *testing.T) {
	words := []uint64{0x8040c0210f0e0d0c, 0xfedcba9876543210, 0x0123456789abcdef}
	for _, x := range []struct {
		kind        string
		code, width int
		sign        bool
	}{
		{"bool", 1, 1, false}, {"i8", 2, 8, true}, {"u8", 2, 8, false}, {"i16", 3, 16, true}, {"u16", 3, 16, false},
		{"i32", 4, 32, true}, {"u32", 4, 32, false}, {"i64", 5, 64, true}, {"u64", 5, 64, false},
	} {
		s := read(t, "struct S { l: list<"+x.kind+">; } root S;")
		for count := range 3*64/x.width + 3 {
			var want api.Val
			for i := range min(count, 3*64/x.width) {
				n := words[i*x.width/64] >> (i * x.width % 64)
				if shift := 64 - x.width; x.sign {
					n = uint64(int64(n<<shift) >> shift)
				} else {
					n = n << shift >> shift
				}
				want.Kids = append(want.Kids, api.Val{Num: n})
			}
			for code := range 8 {
				b := message(append([]uint64{ofStruct(0, 0, 1), ofList(0, code, count)}, words...)...)
				wantEither(t, x.kind, s, b, code == x.code && count*x.width <= 3*64, there(want))
			}
		}
	}
}
