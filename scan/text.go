package scan

import (
	"unicode/utf8"

	"transom/wire"
)

// The units of UTF-16 that are halves of a sign: high ones, and behind these low ones, each of so many bits.
const (
	firstHigh = 0xd800
	firstLow  = 0xdc00
	lastLow   = 0xdfff
	halfBits  = 10
	firstPair = 0x10000 // the first sign of two units
)

// Text: the next text in quotes, behind blanks: what it means.
func (s *Scanner) Text() ([]byte, bool) {
	if !s.Sign('"') {
		return nil, false
	}
	var text []byte
	for !s.taken('"') {
		r, ok := s.sign()
		if !ok {
			return nil, false
		}
		text = utf8.AppendRune(text, r)
	}
	return text, true
}

// sign: the next one between quotes; false: none stands there.
func (s *Scanner) sign() (rune, bool) {
	if s.taken('\\') {
		return s.escaped()
	}
	r, n := utf8.DecodeRune(s.b[s.at:])
	if r == utf8.RuneError && n < 2 { // U+FFFD itself has 3 bytes; 0: none are left
		return 0, false
	}
	return r, r >= ' ' && s.take(n)
}

// escaped: the sign that is meant by what stands behind a \.
func (s *Scanner) escaped() (rune, bool) {
	if s.taken('u') {
		return s.units()
	}
	next, ok := wire.Part(s.b, s.at, 1)
	if !ok {
		return 0, false
	}
	r, ok := meant(next[0])
	return r, ok && s.take(1)
}

// meant: the sign that a byte behind a \ stands for.
func meant(c byte) (rune, bool) {
	switch c {
	case '"', '\\', '/':
		return rune(c), true
	case 'b':
		return '\b', true
	case 'f':
		return '\f', true
	case 'n':
		return '\n', true
	case 'r':
		return '\r', true
	case 't':
		return '\t', true
	}
	return 0, false
}

// units: the sign of the unit whose digits come next, or of that and one more, if it is a half.
func (s *Scanner) units() (rune, bool) {
	r, ok := s.unit()
	if !ok || r < firstHigh || r > lastLow {
		return r, ok
	}
	if r >= firstLow || !s.taken('\\') || !s.taken('u') {
		return 0, false
	}
	low, ok := s.unit()
	if !ok || low < firstLow || low > lastLow {
		return 0, false
	}
	return firstPair + (r-firstHigh)<<halfBits + (low - firstLow), true
}

// unit: what the next four digits of base sixteen say.
func (s *Scanner) unit() (rune, bool) {
	next, ok := wire.Part(s.b, s.at, 4)
	if !ok {
		return 0, false
	}
	var r rune
	for _, c := range next {
		n, ok := Hex(small(c))
		if !ok {
			return 0, false
		}
		r = r<<4 | rune(n)
	}
	return r, s.take(len(next))
}

// small: a great letter as a small one.
func small(c byte) byte {
	if 'A' <= c && c <= 'Z' {
		return c - 'A' + 'a'
	}
	return c
}
