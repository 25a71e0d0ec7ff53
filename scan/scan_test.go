package scan_test

import (
	"bytes"
	"math"
	"strings"
	"testing"

	"transom/api"
	"transom/scan"
	"transom/wire"
)

// plenty: more steps than anything here may want.
const plenty = 1 << 30

// blanks: all bytes that are some.
const blanks = " \t\n\r"

// open: a scanner at a text's first byte.
func open(text string) *scan.Scanner { return scan.New([]byte(text), 0, wire.New(plenty)) }

// wantAt: the place where it must be.
func wantAt(t *testing.T, s *scan.Scanner, text string, at int) {
	t.Helper()
	if got := s.At(); got != at {
		t.Errorf("%q: at %d, want %d", text, got, at)
	}
}

// The chapter's examples.
func TestExamples(t *testing.T) {
	wantText(t, `"a\u00e9\ud83d\ude00"`, "aé😀")
	wantNoText(t, `"\ud83d"`)
	for _, text := range []string{"-0", "01", "1.5"} {
		wantNoNumber(t, text)
	}
	if b, e := scan.Undigits([]byte("0aff")); e != api.OK || string(b) != "\x0a\xff" {
		t.Errorf("0aff: %x, %d", b, e)
	}
	for _, text := range []string{"0A", "1"} {
		if b, e := scan.Undigits([]byte(text)); e != api.ErrMalformed || len(b) != 0 {
			t.Errorf("%s: %x, %d", text, b, e)
		}
	}
}

// P13.1: New and At, of places within, below 0 and behind the end.
func TestPlaces(t *testing.T) {
	for _, text := range []string{"", "a", "abc", " \n"} {
		for _, c := range []struct{ at, want int }{
			{0, 0}, {-1, 0}, {-7, 0}, {math.MinInt, 0},
			{1, min(1, len(text))}, {2, min(2, len(text))}, {3, min(3, len(text))},
			{len(text), len(text)}, {len(text) + 1, len(text)}, {math.MaxInt, len(text)},
		} {
			s := scan.New([]byte(text), c.at, wire.New(plenty))
			wantAt(t, s, text, c.want)
			wantAt(t, s, text, c.want) // asked, it stays
		}
	}
}

// P13.1: what is taken from a place that is none is what stands at the nearest one.
func TestFromPlaces(t *testing.T) {
	text := "ab"
	for at, want := range map[int]byte{math.MinInt: 'a', -1: 'a', 0: 'a', 1: 'b'} {
		if s := scan.New([]byte(text), at, wire.New(plenty)); !s.Sign(want) {
			t.Errorf("from %d: %q isn't next", at, want)
		}
	}
	for _, at := range []int{2, 3, math.MaxInt} {
		if s := scan.New([]byte(text), at, wire.New(plenty)); !s.End() {
			t.Errorf("from %d: something is left", at)
		}
	}
	s := scan.New([]byte(`12 "x"`), 1, wire.New(plenty))
	if n, ok := s.Number(); !ok || n != "2" {
		t.Errorf("from 1: %q, %v", n, ok)
	}
	if b, ok := s.Text(); !ok || string(b) != "x" {
		t.Errorf("behind it: %q, %v", b, ok)
	}
}

// P13.1: Blank, of each byte.
func TestBlankOfEachByte(t *testing.T) {
	for c := range 256 {
		text, want := "x"+string([]byte{byte(c)})+"x", 1
		if strings.IndexByte(blanks, byte(c)) >= 0 {
			want = 2
		}
		s := scan.New([]byte(text), 1, wire.New(plenty))
		s.Blank()
		wantAt(t, s, text, want)
		s.Blank()
		wantAt(t, s, text, want)
	}
}

// P13.1: Blank, of many, and of none.
func TestBlankOfMany(t *testing.T) {
	for _, c := range []struct {
		text string
		want int
	}{
		{"", 0}, {"a", 0}, {" ", 1}, {" a ", 1}, {"\r\n\t a", 4}, {blanks + blanks, 8}, {blanks + "\v" + blanks, 4}, {"// a", 0}, {"\u00a0", 0}, {"\ufeff ", 0},
	} {
		s := open(c.text)
		s.Blank()
		wantAt(t, s, c.text, c.want)
	}
}

// P13.1: Sign, of each byte where each stands: only the same one is taken, and no blank ever.
func TestSignOfEachByte(t *testing.T) {
	for x := range 256 {
		blank := strings.IndexByte(blanks, byte(x)) >= 0
		for c := range 256 {
			b := []byte{byte(x), 'x'}
			s := scan.New(b, 0, wire.New(plenty))
			want, at := x == c, 0
			if blank { // it is gone over, and x is next
				want, at = c == 'x', 1
			}
			if got := s.Sign(byte(c)); got != want {
				t.Fatalf("Sign(%d) of %d: %v", c, x, got)
			}
			if want {
				at++
			}
			wantAt(t, s, string(b), at)
		}
	}
}

// P13.1: Sign, behind blanks, and where nothing is; where it isn't there, the place is behind the blanks.
func TestSignBehindBlanks(t *testing.T) {
	for _, c := range []struct {
		text string
		sign byte
		ok   bool
		at   int
	}{
		{blanks + "{", '{', true, 5}, {blanks + "{", '}', false, 4}, {" {{", '{', true, 2}, {"{ ", '{', true, 1},
		{"", '{', false, 0}, {"  ", '{', false, 2}, {"  ", ' ', false, 2}, {"", 0, false, 0}, {" \x00", 0, true, 2}, {"\xff", 0xff, true, 1},
	} {
		s := open(c.text)
		if ok := s.Sign(c.sign); ok != c.ok {
			t.Errorf("Sign(%q) of %q: %v", c.sign, c.text, ok)
		}
		wantAt(t, s, c.text, c.at)
	}
	s := open(" [ ] ")
	if !s.Sign('[') || s.Sign('[') || s.Sign(',') || !s.Sign(']') || s.Sign(']') || !s.End() {
		t.Error("one behind the other")
	}
}

// P13.1: Word, that is there, that is cut, and that is not; where it isn't there, the place is behind the blanks.
func TestWord(t *testing.T) {
	for _, c := range []struct {
		text, word string
		ok         bool
		at         int
	}{
		{"true", "true", true, 4}, {blanks + "true ", "true", true, 8}, {"trueish", "true", true, 4}, {"true1", "true", true, 4},
		{"tru", "true", false, 0}, {"  tru", "true", false, 2}, {"t", "true", false, 0}, {"", "true", false, 0}, {"   ", "true", false, 3},
		{" trux", "true", false, 1}, {" xrue", "true", false, 1}, {" True", "true", false, 1}, {" TRUE", "true", false, 1}, {"tr ue", "true", false, 0},
		{"xtrue", "true", false, 0}, {"false", "true", false, 0}, {"false", "false", true, 5}, {"falsetrue", "false", true, 5},
		{" a b", "a b", true, 4}, {" a b", " a b", false, 1}, {" a", "a ", false, 1}, {" a ", "a ", true, 3}, {" ", " ", false, 1},
		{" x", "", true, 1}, {"", "", true, 0}, {"  ", "", true, 2},
		{"\xff\x00", "\xff\x00", true, 2}, {"\xff", "\xfe", false, 0}, {"é", "é", true, 2}, {"é", "\xc3", true, 1}, {"e\u0301", "é", false, 0},
	} {
		s := open(c.text)
		if ok := s.Word(c.word); ok != c.ok {
			t.Errorf("Word(%q) of %q: %v", c.word, c.text, ok)
		}
		wantAt(t, s, c.text, c.at)
	}
}

// P13.1: a word that is changed in one byte, or cut anywhere, isn't there; each is looked for again where it stands.
func TestWordChanged(t *testing.T) {
	const word = "false"
	for i := range len(word) {
		for c := range 256 {
			text := " " + word[:i] + string([]byte{byte(c)}) + word[i+1:]
			s, want := open(text), byte(c) == word[i]
			if got := s.Word(word); got != want {
				t.Errorf("Word(%q) of %q: %v", word, text, got)
			}
		}
		s := open("\n" + word[:i])
		if s.Word(word) || s.At() != 1 || !s.Word(word[:i]) || s.At() != 1+i {
			t.Errorf("cut at %d: at %d", i, s.At())
		}
	}
}

// P13.1: End, of each byte.
func TestEnd(t *testing.T) {
	for c := range 256 {
		want := strings.IndexByte(blanks, byte(c)) >= 0
		for _, text := range []string{string([]byte{byte(c)}), blanks + string([]byte{byte(c)}), string([]byte{byte(c)}) + blanks} {
			s := open(text)
			if got := s.End(); got != want {
				t.Errorf("End of %q: %v", text, got)
			}
			if want {
				wantAt(t, s, text, len(text))
			}
		}
	}
	for _, text := range []string{"", " ", blanks + blanks} {
		if s := open(text); !s.End() || !s.End() {
			t.Errorf("End of %q", text)
		}
	}
	s := open(" 1 ")
	if s.End() {
		t.Error("End ahead of 1")
	}
	if s = open(" 1 "); !s.Sign('1') || !s.End() || s.At() != 3 {
		t.Error("End behind 1")
	}
}

// P13.1, P13.2: pieces one behind the other, with each blank between all of them, and with none where there may be none.
func TestPieces(t *testing.T) {
	for _, gap := range []string{"", " ", "\t", "\n", "\r", blanks, " \n\n"} {
		text := strings.Join([]string{"", "{", `"a"`, ":", "-5", ",", `"b\n"`, ":", "true", "}", ""}, gap)
		s := open(text)
		ok := s.Sign('{')
		a, aThere := s.Text()
		ok = ok && s.Sign(':')
		n, nThere := s.Number()
		ok = ok && s.Sign(',')
		b, bThere := s.Text()
		ok = ok && s.Sign(':') && !s.Word("false") && s.Word("true") && s.Sign('}') && s.End()
		if !ok || !aThere || !nThere || !bThere || string(a) != "a" || n != "-5" || string(b) != "b\n" {
			t.Errorf("%q: %v, %q, %q, %q, at %d", text, ok, a, n, b, s.At())
		}
		wantAt(t, s, text, len(text))
	}
}

// R7: a nil scanner.
func TestNil(t *testing.T) {
	var s *scan.Scanner
	s.Blank()
	if s.At() != 0 || s.Sign('{') || s.Sign(0) || s.Word("true") || s.Word("") || !s.End() {
		t.Error("it holds something")
	}
	if n, ok := s.Number(); ok || n != "" {
		t.Errorf("Number: %q, %v", n, ok)
	}
	if b, ok := s.Text(); ok || len(b) != 0 {
		t.Errorf("Text: %q, %v", b, ok)
	}
	if s.At() != 0 || !s.End() {
		t.Error("it went on")
	}
}

// R5: nil bytes are bytes of length 0.
func TestNilBytes(t *testing.T) {
	s := scan.New(nil, 5, wire.New(plenty))
	s.Blank()
	if s.At() != 0 || s.Sign(0) || s.Word("a") || !s.Word("") || !s.End() {
		t.Error("of nil bytes")
	}
	if n, ok := s.Number(); ok || n != "" {
		t.Errorf("Number: %q, %v", n, ok)
	}
	if b, ok := s.Text(); ok || len(b) != 0 {
		t.Errorf("Text: %q, %v", b, ok)
	}
}

// pieces: texts of which each call can take something, or nothing.
var pieces = []string{
	"", " ", blanks, "{", " {", "}", "true", " tru", "  trues", "0", " -7 ", "-", "01", "1.5", "18446744073709551615", "18446744073709551616",
	`""`, ` "a"`, `"a`, `"\n\u00e9\ud83d\ude00é😀"`, `"\ud83d"`, "\"\xff\"", "\"\x00\"", "\xff", "\x00",
}

// told: what each call answers of a text, with so many steps each, and whether these were enough.
func told(text string, budget int) ([]string, []bool) {
	var l []string
	var enough []bool
	for _, call := range []func(s *scan.Scanner) (string, bool){
		func(s *scan.Scanner) (string, bool) { s.Blank(); return "", true },
		func(s *scan.Scanner) (string, bool) { return "", s.Sign('{') },
		func(s *scan.Scanner) (string, bool) { return "", s.End() },
		func(s *scan.Scanner) (string, bool) { return "", s.Word("true") },
		func(s *scan.Scanner) (string, bool) { return s.Number() },
		func(s *scan.Scanner) (string, bool) { b, ok := s.Text(); return string(b), ok },
	} {
		m := wire.New(budget)
		s := scan.New([]byte(text), 0, m)
		answer, ok := call(s)
		said := "false"
		if ok {
			said = answer + " up to " + text[:s.At()]
		}
		l = append(l, said)
		enough = append(enough, !m.Out())
		if !ok && answer != "" {
			l[len(l)-1] = "something beside false: " + answer
		}
	}
	return l, enough
}

// R10, P3: with fewer steps a call answers as with many, or the meter is out, and what can be false is false.
func TestBudgets(t *testing.T) {
	short := 0
	for _, text := range pieces {
		all, _ := told(text, plenty)
		for budget := -1; budget <= 2*len(text)+2; budget++ {
			some, enough := told(text, budget)
			for i := range all {
				if enough[i] && some[i] != all[i] {
					t.Errorf("call %d of %q, %d steps: %q, with more %q", i, text, budget, some[i], all[i])
				}
				if !enough[i] {
					short++
				}
				if !enough[i] && i > 0 && some[i] != "false" {
					t.Errorf("call %d of %q, %d steps: the meter is out, and yet %q", i, text, budget, some[i])
				}
			}
		}
	}
	if short == 0 {
		t.Error("no meter was ever out")
	}
}

// P1: without a meter nothing is promised, but that nothing panics.
func TestWithoutMeter(t *testing.T) {
	for _, text := range pieces {
		for at := range len(text) + 1 {
			for _, s := range []*scan.Scanner{scan.New([]byte(text), at, nil), new(scan.Scanner)} {
				s.Blank()
				s.Sign('{')
				s.Word("true")
				s.Number()
				s.Text()
				s.End()
				s.At()
			}
		}
	}
}

// R10: the longest pieces stay far within the bound of the least schema and request.
func TestLongest(t *testing.T) {
	const long = api.MaxInput
	for _, text := range []string{
		strings.Repeat(" ", long), strings.Repeat("7", long), "-" + strings.Repeat("7", long-1),
		`"` + strings.Repeat("a", long-2) + `"`, `"` + strings.Repeat("a", long-1), `"` + strings.Repeat(`\n`, long/2-1) + `"`, `"` + strings.Repeat("😀", long/4-1) + `"`, `"` + strings.Repeat(`\u00e9`, long/6-1) + `"`,
	} {
		l, enough := told(text, 1000+100*(len(text)+8)*8)
		for i := range l {
			if !enough[i] {
				t.Errorf("call %d of %.9q.. wants too many steps", i, text)
			}
		}
	}
	wantText(t, `"`+strings.Repeat("a", long)+`"`, strings.Repeat("a", long))
	wantText(t, `"`+strings.Repeat(`\ud83d\ude00`, long)+`"`, strings.Repeat("😀", long))
	wantNoNumber(t, strings.Repeat("7", long))
}

// R6: what is handed in isn't changed, spare room included, and a text that is answered is new memory.
func TestNothingIsChanged(t *testing.T) {
	for _, text := range pieces {
		b := append([]byte(text), "spare room"...)
		was := bytes.Clone(b)
		for at := range len(text) + 1 {
			s := scan.New(b[:len(text)], at, wire.New(plenty))
			one, _ := s.Text()
			two, _ := scan.New(b[:len(text)], at, wire.New(plenty)).Text()
			twin := bytes.Clone(two)
			for i := range one {
				one[i] ^= 0xff
			}
			_ = append(one, "more than there was room for"...)
			if !bytes.Equal(b, was) || !bytes.Equal(two, twin) {
				t.Fatalf("%q, from %d: %q, %q", text, at, b, two)
			}
			s = scan.New(b[:len(text)], at, wire.New(plenty))
			s.Blank()
			s.Sign('{')
			s.Word("true")
			s.Number()
			s.End()
			if !bytes.Equal(b, was) {
				t.Fatalf("%q, from %d: %q", text, at, b)
			}
		}
	}
}

// R8: two scanners of one text, at places of their own, don't know each other.
func TestScannersAreAlone(t *testing.T) {
	b := []byte("1 2 3")
	one, two := scan.New(b, 0, wire.New(plenty)), scan.New(b, 2, wire.New(plenty))
	if !one.Sign('1') || !two.Sign('2') || !one.Sign('2') || !one.Sign('3') || !two.Sign('3') || !one.End() || !two.End() {
		t.Error("one moved the other")
	}
}
