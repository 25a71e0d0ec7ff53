package capread_test

import (
	"math"
	"testing"

	"transom/api"
)

// P8.1: a pointer's place is from 0 to the number of words, and a struct lies within them.
func TestPlacesOfStructs(t *testing.T) {
	s := read(t, `struct T { y: u8 = 3; } struct S { x: T; } root S;`)
	const count = 5
	for place := -3; place <= count+3; place++ {
		for nums := range 5 {
			for ptrs := range 5 - nums {
				words := []uint64{ofStruct(0, 0, 1), ofStruct(place-2, nums, ptrs), 4, 5, 6}
				x := there(num(3))
				ok := 0 <= place && place+nums+ptrs <= count
				if ok && nums > 0 {
					x = there(num(int(words[place]&0xff ^ 3)))
				}
				if words[1] == 0 {
					x = api.Val{} // null
				}
				wantEither(t, "a struct", s, message(words...), ok, there(x))
			}
		}
	}
}

// P8.1: lists likewise.
func TestPlacesOfLists(t *testing.T) {
	s := read(t, `struct S { d: data; l: list<u64>; } root S;`)
	const count = 6
	words := []uint64{ofStruct(0, 0, 2), 0, 0, chars("abcdefgh"), chars("ijklmnop"), chars("qrstuvwx")}
	for place := -3; place <= count+3; place++ {
		for size := range 6 {
			words[1], words[2] = 0, ofList(place-3, 5, size)
			ok := 0 <= place && place+size <= count
			var want api.Val
			for i := 0; ok && i < size; i++ {
				want.Kids = append(want.Kids, api.Val{Num: words[place+i]})
			}
			wantEither(t, "words", s, message(words...), ok && size <= 4, there(api.Val{}, want)) // more are reached twice
		}
		for size := range 40 {
			words[1], words[2] = ofList(place-2, 2, size), 0
			ok := 0 <= place && 8*place+size <= 8*count
			b := message(words...)
			var want api.Val
			if ok {
				want.Bytes = b[8+8*place : 8+8*place+size]
			}
			wantEither(t, "bytes", s, b, ok && size <= 32, there(want, api.Val{}))
		}
	}
}

// P8.1: offsets and sizes as far as they go.
func TestFarPlaces(t *testing.T) {
	s := read(t, `struct S { x: u8 = 3; } root S;`)
	for _, offset := range []int{2, 1 << 20, 1<<29 - 1, -2, -1 << 20, -1 << 29} {
		wantNone(t, "a struct of nothing, out of the words", s, message(ofStruct(offset, 0, 0), 4))
	}
	wantNone(t, "a struct that is too large", s, message(ofStruct(-1, math.MaxUint16, 0), 4))
	wantNone(t, "a struct that is too large", s, message(ofStruct(-1, 0, math.MaxUint16), 4))
	s = read(t, `struct S { b: list<bool>; d: data; p: list<data>; t: list<S>; } root S;`)
	for code := range 8 {
		for field := range 4 {
			for _, offset := range []int{5 - 1 - field, 1<<29 - 1, -1 << 29} {
				words := []uint64{ofStruct(0, 0, 4), 0, 0, 0, 0, 0}
				words[1+field] = ofList(offset, code, 1<<29-1)
				wantNone(t, "a list that is too large", s, message(words...))
			}
		}
	}
}

// P8.1: what bits 0 and 1 tell, and what a field wants.
func TestPointersOfAnotherKind(t *testing.T) {
	s := read(t, `struct S { x: u8; s: S; t: text; d: data; n: list<u8>; l: list<text>; r: list<S>; } root S;`)
	const fields, none = 6, 99
	good := [fields]uint64{} // of each field a pointer to words that are 0
	codes := []int{none, 2, 2, 2, 6, 7}
	for field, code := range codes {
		good[field] = ofList(6-1-field, code, 1-field/4)
		if code == none {
			good[field] = ofStruct(6-1-field, 0, 0)
		}
	}
	empty := there(num(0), api.Val{}, api.Val{}, api.Val{}, api.Val{}, api.Val{}, api.Val{})
	want := there(num(0), empty, api.Val{}, raw("\x00"), many(num(0)), api.Val{}, api.Val{})
	for field := range fields {
		with := func(p uint64) []byte {
			words := append([]uint64{ofStruct(0, 0, fields)}, good[:]...)
			words[1+field] = p
			return message(append(words, make([]uint64, fields)...)...)
		}
		wantValue(t, "as it is", s, with(good[field]), want)
		for kind := range uint64(4) {
			p := good[field]&^3 | kind
			if p != good[field] && p != 0 {
				wantNone(t, "another kind of pointer", s, with(p))
			}
		}
		for code := range 8 {
			if code != codes[field] {
				for count := range 2 {
					wantNone(t, "a list of another code", s, with(ofList(6-1-field, code, count)))
				}
			}
		}
		if field > 0 {
			wantNone(t, "a struct, where a list is wanted", s, with(ofStruct(6-1-field, 1, 0)))
		}
	}
}

// P8.1: null: a struct isn't there, bytes and lists are empty.
func TestNull(t *testing.T) {
	s := read(t, `struct S { x: u8; s: S; t: text; d: data; n: list<u8>; l: list<text>; r: list<S>; } root S;`)
	empty := there(num(0), api.Val{}, api.Val{}, api.Val{}, api.Val{}, api.Val{}, api.Val{})
	wantValue(t, "null", s, message(ofStruct(0, 0, 6), 0, 0, 0, 0, 0, 0), empty)
	s = read(t, `struct S { t: list<text>; d: list<data>; n: list<list<u8>>; l: list<list<text>>; r: list<list<S>>; } root S;`)
	words := []uint64{ofStruct(0, 0, 5), ofList(4, 6, 3), ofList(6, 6, 3), ofList(8, 6, 3), ofList(10, 6, 3), ofList(12, 6, 3)}
	words = append(words, make([]uint64, 15)...)
	three := many(api.Val{}, api.Val{}, api.Val{})
	wantValue(t, "null in lists", s, message(words...), there(three, three, three, three, three))
}

// P8.1: words and pointers beyond a struct's own are left out, whatever they say; those that aren't there are the defaults.
func TestLargerAndSmallerStructs(t *testing.T) {
	s := read(t, `struct S { x: u8 = 3; t: text; } root S;`)
	const wild = math.MaxUint64
	wantValue(t, "just so", s, message(ofStruct(0, 1, 1), 1, ofList(0, 2, 2), chars("a")), there(num(2), raw("a")))
	wantValue(t, "larger", s, message(ofStruct(0, 2, 3), 1, wild, ofList(2, 2, 2), wild, ofList(-1, 2, 1<<29-1), chars("a")), there(num(2), raw("a")))
	wantValue(t, "bits that belong to nothing", s, message(ofStruct(0, 1, 1), wild-0xff, ofList(0, 2, 2), wild&^0xffff|'a'), there(num(3), raw("a")))
	wantValue(t, "no numbers", s, message(ofStruct(0, 0, 1), ofList(0, 2, 2), chars("a")), there(num(3), raw("a")))
	wantValue(t, "no pointers", s, message(ofStruct(0, 1, 0), 1, wild), there(num(2), api.Val{}))
	wantValue(t, "nothing", s, message(ofStruct(1, 0, 0), wild), there(num(3), api.Val{}))
	wantNone(t, "a pointer of its own that is none", s, message(ofStruct(0, 1, 1), 1, wild))
	s = read(t, `struct T { a: text; b: u8 = 3; } struct S { l: list<T>; } root S;`)
	wantValue(t, "in a list", s, message(ofStruct(0, 0, 1), ofList(0, 7, 8), tag(2, 2, 2), 5, wild, 0, wild, 6, wild, 0, wild),
		there(many(there(api.Val{}, num(6)), there(api.Val{}, num(5)))))
	wantValue(t, "smaller in a list", s, message(ofStruct(0, 0, 1), ofList(0, 7, 2), tag(2, 1, 0), 5, 6), there(many(there(api.Val{}, num(6)), there(api.Val{}, num(5)))))
}
