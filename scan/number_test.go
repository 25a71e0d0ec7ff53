package scan_test

import (
	"math/big"
	"math/rand"
	"regexp"
	"strings"
	"testing"
)

// wantNumber: a text whose first number is want, taken up to a place.
func wantNumber(t *testing.T, text, want string, at int) {
	t.Helper()
	s := open(text)
	if got, ok := s.Number(); !ok || got != want {
		t.Errorf("Number of %q: %q, %v, want %q", text, got, ok, want)
		return
	}
	wantAt(t, s, text, at)
}

// wantNoNumber: a text that begins with none.
func wantNoNumber(t *testing.T, text string) {
	t.Helper()
	if got, ok := open(text).Number(); ok || got != "" {
		t.Errorf("Number of %q: %q, %v", text, got, ok)
	}
}

// P13.2: numbers, wherever they stand.
func TestNumbers(t *testing.T) {
	for _, n := range []string{"0", "1", "9", "-1", "-9", "10", "-10", "255", "-128", "4294967296", "9223372036854775807", "9223372036854775808"} {
		wantNumber(t, n, n, len(n))
		wantNumber(t, blanks+n, n, 4+len(n))
		for _, behind := range []string{" ", ",", "}", "]", " .", " e", "-", "-1", "\"", "x", "é", "\x00", " 1"} {
			wantNumber(t, n+behind, n, len(n))
			wantNumber(t, " "+n+behind, n, 1+len(n))
		}
	}
}

// P13.2: what is none.
func TestNoNumbers(t *testing.T) {
	for _, text := range []string{
		"", " ", "-", "--", "--1", "- 1", "-\n1", "+1", "+", "-0", "-00", "-01", "-0 ", "00", "01", "007", "0123456789",
		".5", "-.5", "1.", "1.5", "0.5", "-1.5", "1e5", "1E5", "0e", "0E", "-1e", "1.e", "e1", "a1", "_1", "x", "\"1\"", "{1}", "[1", "NaN", "Infinity", "-Infinity", "true", "null",
		"٣", "１", "\x001", "\xa01", "\v1", "\f1", "// a\n1",
	} {
		wantNoNumber(t, text)
		wantNoNumber(t, blanks+text)
	}
}

// P13.2: each kind of byte behind the digits: only ., e and E count, and more digits.
func TestEachByteBehind(t *testing.T) {
	for c := range 256 {
		behind := string([]byte{byte(c)})
		for _, n := range []string{"12", "-7", "1844674407370955161", "-922337203685477580"} {
			switch {
			case strings.Contains(".eE", behind):
				wantNoNumber(t, n+behind)
				wantNoNumber(t, n+behind+"1")
			case '0' <= c && c <= '9':
				wantEither(t, n+behind)
			default:
				wantNumber(t, n+behind, n, len(n))
				wantNumber(t, n+behind+"1", n, len(n))
			}
		}
		if '0' <= c && c <= '9' || strings.Contains(".eE", behind) {
			wantNoNumber(t, "0"+behind)
		} else {
			wantNumber(t, "0"+behind, "0", 1)
		}
		wantNoNumber(t, "-0"+behind)
		if c < '1' || '9' < c {
			wantNoNumber(t, "-"+behind)
		}
	}
}

// wantEither: a number, if the chapter says so of a text of just digits, with a - or not.
func wantEither(t *testing.T, text string) {
	t.Helper()
	if inBounds(text) {
		wantNumber(t, text, text, len(text))
	} else {
		wantNoNumber(t, text)
	}
}

// inBounds: the chapter's bounds, by numbers of any size.
func inBounds(text string) bool {
	n, ok := new(big.Int).SetString(text, 10)
	least := new(big.Int).Lsh(big.NewInt(-1), 63)
	beyond := new(big.Int).Lsh(big.NewInt(1), 64)
	return ok && n.Cmp(least) >= 0 && n.Cmp(beyond) < 0
}

// P13.2: numbers of every length, with and without a -.
func TestEveryLength(t *testing.T) {
	for length := 1; length <= 40; length++ {
		for _, digit := range "123456789" {
			for _, rest := range []string{"0", "9", string(digit)} {
				digits := string(digit) + strings.Repeat(rest, length-1)
				wantEither(t, digits)
				wantEither(t, "-"+digits)
				wantNoNumber(t, "0"+digits)
				wantNoNumber(t, "-0"+digits)
			}
		}
	}
}

// P13.2: just at -2^63 and 2^64 - 1, and beyond.
func TestBounds(t *testing.T) {
	for _, n := range []string{"-9223372036854775807", "-9223372036854775808", "18446744073709551614", "18446744073709551615", "9223372036854775808", "10000000000000000000"} {
		wantNumber(t, n, n, len(n))
		wantNumber(t, " "+n+",", n, 1+len(n))
	}
	for _, n := range []string{
		"-9223372036854775809", "-9223372036854775810", "-10000000000000000000", "-18446744073709551615", "-18446744073709551616", "-9999999999999999999",
		"18446744073709551616", "18446744073709551620", "18446744073709551700", "20000000000000000000", "99999999999999999999", "100000000000000000000", "018446744073709551615", "184467440737095516150", "36893488147419103233",
	} {
		wantNoNumber(t, n)
		wantNoNumber(t, " "+n+",")
	}
	for more := range int64(2000) {
		for _, from := range []*big.Int{new(big.Int).Lsh(big.NewInt(-1), 63), new(big.Int).Lsh(big.NewInt(1), 64), new(big.Int).Lsh(big.NewInt(1), 63)} {
			wantEither(t, new(big.Int).Add(from, big.NewInt(more-1000)).String())
		}
	}
}

// P13.2: texts of bytes that numbers are made of, in any order, held against the chapter said by a pattern.
func TestNumbersInAnyOrder(t *testing.T) {
	whole := regexp.MustCompile(`^[ \t\n\r]*(-?[1-9][0-9]*|0)`)
	r := rand.New(rand.NewSource(1))
	some, none := 0, 0
	for range 200000 {
		b := make([]byte, r.Intn(9))
		for i := range b {
			b[i] = "0123456789----  \t.eExa"[r.Intn(22)]
		}
		text := string(b)
		at := whole.FindStringSubmatchIndex(text)
		behind := ""
		if at != nil {
			behind = text[at[1]:]
		}
		if at == nil || strings.IndexAny(behind, ".eE0123456789") == 0 { // digits can only stand behind 0
			none++
			wantNoNumber(t, text)
			continue
		}
		some++
		wantNumber(t, text, text[at[2]:at[3]], at[1])
	}
	if some < 20000 || none < 20000 {
		t.Errorf("%d numbers, %d that are none", some, none)
	}
}
