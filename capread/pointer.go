package capread

import "transom/wire"

// What a pointer leads to, by its lowest bits.
const (
	aStruct = 0
	aList   = 1
)

// Codes of lists that aren't of numbers alone.
const (
	bytesCode    = 2
	pointersCode = 6
	structsCode  = 7
)

// mostElements: a list of structs has fewer.
const mostElements = 1 << 29

// codes: how many bits a list's element has, by the list's code. (Of a list of structs the tag tells it.)
func codes() map[int]int {
	return map[int]int{0: 0, 1: 1, bytesCode: 8, 3: 16, 4: 32, 5: 64, pointersCode: 64}
}

// shape is how many words of numbers a struct has, and how many pointers behind them.
type shape struct{ nums, ptrs int }

// size: in words.
func (s shape) size() int { return s.nums + s.ptrs }

// pointer is a pointer that was read: null, or to a struct of a shape, or to a list of a code and a count, that stands at a word.
type pointer struct {
	null, list bool
	at         int
	shape
	code, count int
}

// pointer: the one in a word; false: it is none, or what it leads to isn't within the words.
func (m *message) pointer(at int) (pointer, bool) {
	word, ok := wire.Load(m.words, wordSize*at, wordSize)
	if !ok || word == 0 {
		return pointer{null: ok}, ok
	}
	p := pointer{at: at + 1 + offset(word)}
	switch kindOf(word) {
	case aStruct:
		p.shape = shapeOf(word)
	case aList:
		p.list = true
		p.code = int(word >> 32 & 7)
		p.count = int(word >> 35)
	default:
		return pointer{}, false
	}
	if _, ok = wire.Next(p.at, m.extent(p), m.count); !ok {
		return pointer{}, false
	}
	return p, true
}

// extent: how many words that has to which a pointer leads.
func (m *message) extent(p pointer) int {
	switch {
	case !p.list:
		return p.size()
	case p.code == structsCode:
		return 1 + p.count
	}
	return (p.count*m.codes[p.code] + wordBits - 1) / wordBits
}

// kindOf: what a pointer, or a tag, is of.
func kindOf(word uint64) int { return int(word & 3) }

// offset: a pointer's, with its sign.
func offset(word uint64) int { return int(int32(word) >> 2) }

// elements: a tag's, which has them where a pointer has its offset, but without a sign.
func elements(tag uint64) int { return int(uint32(tag) >> 2) }

// shapeOf: a struct's pointer's, or a tag's.
func shapeOf(word uint64) shape {
	return shape{nums: int(word >> 32 & 0xffff), ptrs: int(word >> 48)}
}
