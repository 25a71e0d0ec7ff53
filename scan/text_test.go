package scan_test

import (
	"encoding/json"
	"math/rand"
	"regexp"
	"strconv"
	"strings"
	"testing"
	"unicode/utf8"
)

// wantText: a text in quotes, and what it means.
func wantText(t *testing.T, text, want string) {
	t.Helper()
	wantTextUpTo(t, text, want, len(text))
}

// wantTextUpTo: a text that begins with one in quotes, what it means, and the place behind it.
func wantTextUpTo(t *testing.T, text, want string, at int) {
	t.Helper()
	s := open(text)
	if got, ok := s.Text(); !ok || string(got) != want {
		t.Errorf("Text of %.60q: %.60q, %v, want %.60q", text, got, ok, want)
		return
	}
	wantAt(t, s, text, at)
}

// wantNoText: a text that begins with none.
func wantNoText(t *testing.T, text string) {
	t.Helper()
	if got, ok := open(text).Text(); ok || len(got) != 0 {
		t.Errorf("Text of %q: %q, %v", text, got, ok)
	}
}

// P13.2: texts, wherever they stand.
func TestTexts(t *testing.T) {
	for _, c := range []struct{ text, want string }{
		{`""`, ""}, {`"a"`, "a"}, {`" "`, " "}, {`"  a  "`, "  a  "}, {`"//"`, "//"}, {`"{}[]:,"`, "{}[]:,"}, {`"'"`, "'"}, {"\"\x7f\"", "\x7f"},
		{`"é"`, "é"}, {`"😀"`, "😀"}, {`"aé😀b"`, "aé😀b"}, {`"e` + "\u0301" + `"`, "e\u0301"}, {"\"\u2028\u2029\"", "\u2028\u2029"},
		{`"\"\\\/\b\f\n\r\t"`, "\"\\/\b\f\n\r\t"}, {`"\\u0041"`, `\u0041`}, {`"\\n"`, `\n`}, {`"\\\n"`, "\\\n"}, {`"\u005cn"`, `\n`}, {`"\u0022"`, `"`}, {`"\u0000\u001f"`, "\x00\x1f"},
	} {
		wantText(t, c.text, c.want)
		wantTextUpTo(t, blanks+c.text, c.want, 4+len(c.text))
		for _, behind := range []string{" ", ":", `"`, "a", `""`, "\x00", "\xff", `\`} {
			wantTextUpTo(t, c.text+behind, c.want, len(c.text))
		}
	}
	s := open(`"a""b" "c"`)
	for _, want := range []string{"a", "b", "c"} {
		if got, ok := s.Text(); !ok || string(got) != want {
			t.Errorf("one behind the other: %q, %v", got, ok)
		}
	}
}

// P13.2: what is none: without quotes, with others, without an end.
func TestNoTexts(t *testing.T) {
	for _, text := range []string{"", " ", "a", `a"`, "'a'", `\"a"`, "`a`", "“a”", "null", "1", "{", `{"a"`, `"`, `"a`, `"a\"`, `"\`, `"a\\\"`, `"\u`, `"\u00`, `"\u0041`, `"\ud83d\ude00`, "\"a\n\"", "\"\xc3", "\"é", "\v\"a\"", "\ufeff\"a\""} {
		wantNoText(t, text)
		wantNoText(t, blanks+text)
	}
	const whole = `"a\u00e9\n\ud83d\ude00é😀\\"`
	for end := range len(whole) {
		wantNoText(t, whole[:end])
		wantNoText(t, " "+whole[:end])
	}
	wantText(t, whole, "aé\n😀é😀\\")
}

// P13.2: every byte between the quotes.
func TestEveryByteBetween(t *testing.T) {
	for c := range 256 {
		one := string([]byte{byte(c)})
		text := `"a` + one + `b"`
		switch {
		case c == '"':
			wantTextUpTo(t, text, "a", 3)
		case c == '\\':
			wantText(t, text, "a\b")
		case c < 32 || c >= 128:
			wantNoText(t, text)
			wantNoText(t, `"`+one+`"`)
		default:
			wantText(t, text, "a"+one+"b")
			wantText(t, `"`+one+`"`, one)
		}
	}
}

// P13.2: every escape, and every byte behind a \ that makes none.
func TestEveryEscape(t *testing.T) {
	means := map[byte]string{'"': "\"", '\\': "\\", '/': "/", 'b': "\b", 'f': "\f", 'n': "\n", 'r': "\r", 't': "\t"}
	for c := range 256 {
		escape := `\` + string([]byte{byte(c)})
		want, ok := means[byte(c)]
		switch {
		case ok:
			wantText(t, `"`+escape+`"`, want)
			wantText(t, `"a`+escape+`0041"`, "a"+want+"0041")
		case c == 'u':
			wantNoText(t, `"`+escape+`"`)
			wantText(t, `"a`+escape+`0041"`, "aA")
		default:
			wantNoText(t, `"`+escape+`"`)
			wantNoText(t, `"a`+escape+`0041"`)
		}
		if c != '"' {
			wantNoText(t, `"`+escape)
		}
	}
}

// unit: four digits of base sixteen; of small letters, of great ones, or of both.
func unit(n, letters int) string {
	b := []byte(strconv.FormatInt(int64(0x10000+n), 16)[1:])
	for i := range b {
		if b[i] >= 'a' && (letters == 1 || letters == 2 && i%2 == 0 || letters == 3 && i%2 == 1) {
			b[i] -= 'a' - 'A'
		}
	}
	return `\u` + string(b)
}

// P13.2: each unit of UTF-16 alone, in small and great letters: a sign, but for the halves.
func TestEveryUnit(t *testing.T) {
	for n := range 0x10000 {
		for letters := range 4 {
			text := `"` + unit(n, letters) + `"`
			if 0xd800 <= n && n < 0xe000 {
				wantNoText(t, text)
			} else {
				wantText(t, text, string(rune(n)))
			}
		}
	}
}

// P13.2: each high unit with each kind of low one, and each low one with each kind of high one, and both turned.
func TestPairs(t *testing.T) {
	edges := []int{0, 1, 2, 511, 512, 1022, 1023}
	pair := func(high, low int) {
		t.Helper()
		one, two := unit(0xd800+high, high%4), unit(0xdc00+low, low%4)
		wantText(t, `"`+one+two+`"`, string(rune(0x10000+high*1024+low)))
		wantText(t, `"a`+one+two+`b"`, "a"+string(rune(0x10000+high*1024+low))+"b")
		wantNoText(t, `"`+two+one+`"`)
		wantNoText(t, `"`+one+one+`"`)
		wantNoText(t, `"`+two+two+`"`)
		wantNoText(t, `"`+one+one+two+`"`)
		wantNoText(t, `"`+one+two+two+`"`)
		wantText(t, `"`+one+two+one+two+`"`, strings.Repeat(string(rune(0x10000+high*1024+low)), 2))
	}
	for n := range 1024 {
		for _, edge := range edges {
			pair(n, edge)
			pair(edge, n)
		}
	}
	wantText(t, `"\ud800\udc00"`, "\U00010000")
	wantText(t, `"\udbff\udfff"`, "\U0010ffff")
}

// P13.2: a half with anything but the other half behind it, or ahead of it.
func TestHalves(t *testing.T) {
	for _, high := range []string{`\ud800`, `\uD83D`, `\udbff`} {
		for _, behind := range []string{"", "a", `\n`, `\\`, `\"`, `\\ude00`, `\u0041`, `\ud7ff`, `\ue000`, `\ud800`, `\udbff`, `\ude0`, `\u`, `\U0000de00`, `\Ude00`, `ude00`, `\xde00`, `\nde00`, "é", "\xed\xb8\x80", `/\ude00`, ` \ude00`, `\ ude00`, `\u de0`} {
			wantNoText(t, `"`+high+behind+`"`)
			wantNoText(t, `"`+high+behind)
		}
	}
	for _, low := range []string{`\udc00`, `\uDE00`, `\udfff`} {
		for _, around := range []string{"", "a", `\n`, `\u0041`, `\ud7ff`, `\ue000`, "é"} {
			wantNoText(t, `"`+around+low+`"`)
			wantNoText(t, `"`+low+around+`"`)
		}
	}
	wantNoText(t, "\"\xed\xa0\xbd\xed\xb8\x80\"") // the two halves' own bytes
}

// P13.2: a high half with each byte where \ and u of the low one must be.
func TestBetweenHalves(t *testing.T) {
	for c := range 256 {
		one := string([]byte{byte(c)})
		if c != '\\' {
			wantNoText(t, `"\ud83d`+one+`ude00"`)
		}
		if c != 'u' {
			wantNoText(t, `"\ud83d\`+one+`de00"`)
		}
	}
}

// P13.2: each byte in each place of the four digits, and fewer of them.
func TestDigitsOfUnits(t *testing.T) {
	for i := range 4 {
		for c := range 256 {
			digits := []byte("0041")
			digits[i] = byte(c)
			text := `"\u` + string(digits) + `"`
			n, err := strconv.ParseUint(strings.ToLower(string(digits)), 16, 32)
			if isDigit := strings.IndexByte("0123456789abcdefABCDEF", byte(c)) >= 0; isDigit != (err == nil) {
				t.Fatalf("%q", digits)
			}
			if err != nil {
				wantNoText(t, text)
			} else {
				wantText(t, text, string(rune(n)))
			}
		}
		wantNoText(t, `"\u`+"0041"[:i]+`"`)
		wantNoText(t, `"\u`+"0041"[:i]+`" and more`)
		wantNoText(t, `"\u`+"0041"[:i]+`\n"`)
	}
	wantText(t, `"\u00412"`, "A2")
	wantText(t, `"\u00e9é"`, "éé")
}

// P13.2: bytes between quotes are UTF-8 or not, of each two bytes.
func TestEachTwoBytes(t *testing.T) {
	for n := range 0x10000 {
		between := string([]byte{byte(n >> 8), byte(n)})
		if between[0] < 128 && between[1] < 128 {
			continue
		}
		if between[0] == '"' {
			wantTextUpTo(t, `"`+between+`"`, "", 2)
			continue
		}
		plain := !strings.ContainsAny(between, "\"\\") && between[0] >= 32 && between[1] >= 32
		if plain && utf8.ValidString(between) {
			wantText(t, `"`+between+`"`, between)
		} else {
			wantNoText(t, `"`+between+`"`)
		}
	}
}

// P13.2: bytes between quotes are UTF-8 or not, at its edges.
func TestUtf8Edges(t *testing.T) {
	for _, between := range []string{
		"\x7f", "\xc2\x80", "\xdf\xbf", "\xe0\xa0\x80", "\xed\x9f\xbf", "\xee\x80\x80", "\xef\xbf\xbd", "\xef\xbf\xbe", "\xef\xbf\xbf", "\xf0\x90\x80\x80", "\xf4\x8f\xbf\xbf",
	} {
		wantText(t, `"`+between+`"`, between)
		wantText(t, `"a`+between+between+`\n"`, "a"+between+between+"\n")
		for end := 1; end < len(between); end++ { // what is cut isn't mended by what is behind it
			for _, behind := range []string{"", "a", `\n`, `\u0080`, `\ufffd`, `\u00e9`, between} {
				wantNoText(t, `"`+between[:end]+behind+`"`)
			}
			wantNoText(t, `"`+between[end:]+`"`)
			wantNoText(t, `"\u00e9`+between[end:]+`"`)
		}
	}
	for _, between := range []string{
		"\x80", "\xbf", "\xc0\x80", "\xc1\xbf", "\xe0\x80\x80", "\xe0\x9f\xbf", "\xed\xa0\x80", "\xed\xbf\xbf", "\xf0\x80\x80\x80", "\xf0\x8f\xbf\xbf", "\xf4\x90\x80\x80", "\xf5\x80\x80\x80", "\xf8\x88\x80\x80\x80", "\xfe", "\xff", "\xff\xfe",
	} {
		wantNoText(t, `"`+between+`"`)
		wantNoText(t, `"a`+between+`b"`)
	}
}

// P13.2: texts of all that they may be made of, and of what they may not, in any order, held against another reader: it takes halves and bytes that are no UTF-8 as well, and these are looked for by a pattern.
func TestTextsInAnyOrder(t *testing.T) {
	made := []string{
		"a", "b", "u", "0041", " ", "/", "\x7f", "é", "😀", "\ufffd", `\"`, `\\`, `\/`, `\b`, `\f`, `\n`, `\r`, `\t`, `\u0041`, `\u00E9`, `\ufffd`, `\ud83d\ude00`, `\uD800\uDC00`,
	}
	odd := []string{`"`, `\`, `\u`, `\ud83d`, `\ude00`, `\u12`, `\x`, "\n", "\x00", "\x1f", "\xff", "\xc3", "\xa9", "\xed\xa0\x80"}
	half := regexp.MustCompile(`(?i)\\ud[89ab]..\\ud[c-f]..|\\ud[89a-f]..|\\.`)
	r := rand.New(rand.NewSource(1))
	some, none := 0, 0
	for range 100000 {
		var between strings.Builder
		for range r.Intn(8) {
			if r.Intn(12) == 0 {
				between.WriteString(odd[r.Intn(len(odd))])
			} else {
				between.WriteString(made[r.Intn(len(made))])
			}
		}
		text := `"` + between.String() + `"`
		if strings.Contains(strings.NewReplacer(`\\`, "", `\"`, "").Replace(between.String()), `"`) {
			continue // it ends sooner than where the other reader wants its end
		}
		var want string
		ok := json.Unmarshal([]byte(text), &want) == nil && utf8.ValidString(text)
		for _, found := range half.FindAllString(text, -1) {
			ok = ok && (len(found) < 6 || len(found) == 12)
		}
		if ok {
			some++
			wantText(t, text, want)
		} else {
			none++
			wantNoText(t, text)
		}
	}
	if some < 20000 || none < 20000 {
		t.Errorf("%d texts, %d that are none", some, none)
	}
}
