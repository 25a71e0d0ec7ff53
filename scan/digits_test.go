package scan_test

import (
	"bytes"
	"encoding/hex"
	"math/rand"
	"strings"
	"testing"

	"transom/api"
	"transom/scan"
)

// P13.3: Hex, of every byte.
func TestHex(t *testing.T) {
	for c := range 256 {
		want := strings.IndexByte("0123456789abcdef", byte(c))
		n, ok := scan.Hex(byte(c))
		if ok != (want >= 0) || int(n) != max(want, 0) {
			t.Errorf("Hex(%d): %d, %v", c, n, ok)
		}
	}
}

// P13.3: Digits, and back by Undigits, of every byte.
func TestDigitsOfEveryByte(t *testing.T) {
	var all []byte
	for c := range 256 {
		b := []byte{byte(c)}
		wantDigits(t, b, hex.EncodeToString(b))
		all = append(all, byte(c))
	}
	wantDigits(t, all, hex.EncodeToString(all))
	wantDigits(t, nil, "")
	wantDigits(t, []byte{}, "")
	wantDigits(t, []byte{0x0a, 0xff}, "0aff")
	wantDigits(t, []byte{0, 0, 1}, "000001")
}

// wantDigits: what bytes are as digits, and back.
func wantDigits(t *testing.T, b []byte, want string) {
	t.Helper()
	if got := scan.Digits(b); got != want {
		t.Errorf("Digits(%x): %s, want %s", b, got, want)
	}
	if got, e := scan.Undigits([]byte(want)); e != api.OK || !bytes.Equal(got, b) {
		t.Errorf("Undigits(%s): %x, %d, want %x", want, got, e, b)
	}
}

// wantNoDigits: a text that Digits doesn't make.
func wantNoDigits(t *testing.T, text string) {
	t.Helper()
	if got, e := scan.Undigits([]byte(text)); e != api.ErrMalformed || len(got) != 0 {
		t.Errorf("Undigits(%q): %x, %d", text, got, e)
	}
}

// P13.3: Undigits, of each two bytes: of those that Digits makes, and of all others.
func TestEachTwoDigits(t *testing.T) {
	for n := range 0x10000 {
		text := string([]byte{byte(n >> 8), byte(n)})
		b, err := hex.DecodeString(text)
		if err == nil && text == strings.ToLower(text) {
			wantDigits(t, b, text)
		} else {
			wantNoDigits(t, text)
			wantNoDigits(t, "00"+text)
			wantNoDigits(t, text+"ff")
		}
	}
}

// P13.3: Undigits, of odd lengths, and of great letters.
func TestNoDigits(t *testing.T) {
	for length := 1; length < 40; length += 2 {
		wantNoDigits(t, strings.Repeat("0", length))
		wantNoDigits(t, strings.Repeat("f", length))
	}
	for _, text := range []string{"0A", "A0", "FF", "aB", "0x", "0x0a", " 0a", "0a ", "0a 0b", "0a,0b", "+1", "-1", "0g", "g0", "\"0a\"", "٠٠", "0\x00", "\n\n"} {
		wantNoDigits(t, text)
	}
}

// P13.3: there and back, of bytes of any length.
func TestThereAndBack(t *testing.T) {
	r := rand.New(rand.NewSource(1))
	for length := range 300 {
		b := make([]byte, length)
		r.Read(b)
		wantDigits(t, b, hex.EncodeToString(b))
	}
	long := bytes.Repeat([]byte{0x5a, 0xc3}, api.MaxOutput)
	wantDigits(t, long, strings.Repeat("5ac3", api.MaxOutput))
}

// R6: what is handed in isn't changed, spare room included, and an answer is new memory.
func TestDigitsAreNew(t *testing.T) {
	text := []byte("0aff and spare room")
	was := bytes.Clone(text)
	one, _ := scan.Undigits(text[:4])
	two, _ := scan.Undigits(text[:4])
	one[0] = 7
	_ = append(one, "more"...)
	if !bytes.Equal(text, was) || string(two) != "\x0a\xff" {
		t.Errorf("%q, %x", text, two)
	}
	b := []byte{1, 2, 3, 4}
	digits := scan.Digits(b[:2])
	b[0] = 9
	if digits != "0102" || b[2] != 3 {
		t.Errorf("%s, %x", digits, b)
	}
}
