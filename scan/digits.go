package scan

import "transom/api"

// base16: the digits, each at the place that it says.
const base16 = "0123456789abcdef"

// Hex: what a digit of base sixteen, of small letters, says.
func Hex(c byte) (byte, bool) {
	switch {
	case digit(c):
		return c - '0', true
	case 'a' <= c && c <= 'f':
		return c - 'a' + 10, true
	}
	return 0, false
}

// Digits: bytes as digits of base sixteen, of small letters, two each.
func Digits(b []byte) string {
	text := make([]byte, 0, 2*len(b))
	for _, c := range b {
		text = append(text, base16[c>>4], base16[c&15])
	}
	return string(text)
}

// Undigits: back.
func Undigits(s []byte) ([]byte, api.Errno) {
	if len(s)%2 != 0 {
		return nil, api.ErrMalformed
	}
	b := make([]byte, len(s)/2)
	for i := range b {
		high, ok := Hex(s[2*i])
		low, also := Hex(s[2*i+1])
		if !ok || !also {
			return nil, api.ErrMalformed
		}
		b[i] = high<<4 | low
	}
	return b, api.OK
}
