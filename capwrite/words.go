package capwrite

import "transom/layout"

// Of a word.
const (
	wordSize = 8
	wordBits = 64
)

// Codes of lists that aren't of numbers alone.
const (
	bytesCode    = 2
	pointersCode = 6
	structsCode  = 7
)

// numbersCode: that of a list of numbers so wide.
func numbersCode(width int) int {
	switch width {
	case 1:
		return 1
	case 8:
		return bytesCode
	case 16:
		return 3
	case 32:
		return 4
	}
	return 5
}

// structBits: a struct's pointer but its offset, or a tag but the number of elements.
func structBits(p layout.Packed) uint64 {
	return uint64(p.Words)<<32 | uint64(p.Ptrs)<<48
}

// listBits: a list's pointer but its offset.
func listBits(code, count int) uint64 {
	return 1 | uint64(code)<<32 | uint64(count)<<35
}

// with: a pointer with its offset, or a tag with the number of elements: both stand from bit 2 on, and neither is below 0 here.
func with(bits uint64, n int) uint64 { return bits | uint64(n)<<2 }

// words are bits that stand one behind the other.
type words []uint64

// put: a number's lowest bits, where bits 0 of one word stand.
func (l words) put(at, width int, n uint64) {
	lowest := n &^ (^uint64(0) << width)
	l[at/wordBits] |= lowest << (at % wordBits)
}

// wordsOf: how many words so many bits want.
func wordsOf(bits int) int { return (bits + wordBits - 1) / wordBits }
