// Package wire is layer 1: bytes that are looked at within their bounds, and a meter: see shared/doc/01-wire.md.
package wire

import (
	"unicode/utf8"

	"transom/api"
)

// Meter is a budget; it never goes below 0.
type Meter struct {
	left int
	out  bool
}

// New: so many steps.
func New(budget int) *Meter { return &Meter{left: max(budget, 0)} }

// Take: so many steps; false: there aren't as many, and from then on there are none.
func (m *Meter) Take(n int) bool {
	if m == nil || m.out || n < 0 {
		return false
	}
	if n > m.left {
		m.left, m.out = 0, true
		return false
	}
	m.left -= n
	return true
}

// Left: how many steps.
func (m *Meter) Left() int {
	if m == nil {
		return 0
	}
	return m.left
}

// Out: was more asked for than there was?
func (m *Meter) Out() bool { return m != nil && m.out }

// Load: the number of size (1, 2, 4 or 8) bytes at a place, the lowest first; false: they aren't there.
func Load(b []byte, at, size int) (uint64, bool) {
	if !Sized(size) || !Within(b, at, size) {
		return 0, false
	}
	var n uint64
	for i := range size {
		n |= uint64(b[at+i]) << (8 * i)
	}
	return n, true
}

// Store: a number's size lowest bytes at a place; false: there is no room, and nothing happens.
func Store(b []byte, at, size int, n uint64) bool {
	if !Sized(size) || !Within(b, at, size) {
		return false
	}
	for i := range size {
		b[at+i] = byte(n >> (8 * i))
	}
	return true
}

// Sized: is it a number's size?
func Sized(size int) bool {
	return size == 1 || size == 2 || size == 4 || size == 8
}

// Within: are n bytes there, from a place on?
func Within(b []byte, at, n int) bool {
	_, ok := Next(at, n, len(b))
	return ok
}

// Part: n bytes from a place on, without room behind; false: they aren't there.
func Part(b []byte, at, n int) ([]byte, bool) {
	end, ok := Next(at, n, len(b))
	if !ok {
		return nil, false
	}
	return b[at:end:end], true
}

// Next: the place behind n more from a place on; false: it is above most, or one is below 0.
func Next(at, n, most int) (int, bool) {
	// at + n may wrap round; most - at can't, once at lies between 0 and most.
	if at < 0 || n < 0 || at > most || n > most-at {
		return 0, false
	}
	return at + n, true
}

// Signed: a number of size bytes with its sign, in 64 bits.
func Signed(n uint64, size int) uint64 {
	switch size {
	case 1:
		return uint64(int8(n))
	case 2:
		return uint64(int16(n))
	case 4:
		return uint64(int32(n))
	}
	return n
}

// Utf8: where bytes first aren't UTF-8; -1: they are.
func Utf8(b []byte) int {
	behind := 0
	for i := range len(b) {
		if i < behind {
			continue
		}
		r, n := utf8.DecodeRune(b[i:])
		if r == utf8.RuneError && n == 1 { // U+FFFD itself is a sign too, of 3 bytes
			return i
		}
		behind = i + n
	}
	return -1
}

// Size: of a kind's numbers in bytes (of an enum's 1, a bool's 1); 0: they are no numbers.
func Size(k api.Kind) int {
	switch k {
	case api.Bool, api.I8, api.U8, api.Enum:
		return 1
	case api.I16, api.U16:
		return 2
	case api.I32, api.U32:
		return 4
	case api.I64, api.U64:
		return 8
	}
	return 0
}

// Sign: does a kind have numbers below 0?
func Sign(k api.Kind) bool { return api.I8 <= k && k <= api.I64 }
