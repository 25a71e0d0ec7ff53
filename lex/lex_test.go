package lex_test

import (
	"math"
	"strconv"
	"strings"
	"testing"

	"transom/api"
	"transom/lex"
)

// told writes tokens down: a letter for the kind, the text, and the place.
func told(l []api.Token) string {
	var all []string
	for _, t := range l {
		kind := "?"
		switch t.Kind {
		case api.TEnd:
			kind = "end"
		case api.TName:
			kind = "name"
		case api.TNumber:
			kind = "number"
		case api.TQuoted:
			kind = "quoted"
		case api.TSign:
			kind = "sign"
		}
		all = append(all, kind+"("+t.Text+")"+strconv.Itoa(t.At))
	}
	return strings.Join(all, " ")
}

// wantTokens checks that a text is just these tokens.
func wantTokens(t *testing.T, text, signs, want string) {
	t.Helper()
	l, f := lex.Tokens(text, signs)
	if f != (api.Fault{}) {
		t.Errorf("%.40q, %q: fault %v, want %s", text, signs, f, want)
		return
	}
	if got := told(l); got != want {
		t.Errorf("%.40q, %q: %s, want %s", text, signs, got, want)
	}
}

// wantFault checks that a text has just this fault, and no tokens.
func wantFault(t *testing.T, text, signs string, code api.Errno, at int) {
	t.Helper()
	l, f := lex.Tokens(text, signs)
	if f != (api.Fault{Code: code, At: at}) {
		t.Errorf("%.40q, %q: fault %v, want %d at %d", text, signs, f, code, at)
	}
	if len(l) != 0 {
		t.Errorf("%.40q, %q: tokens beside a fault: %s", text, signs, told(l))
	}
}

// wantNumber checks what a text says; beside false the number is 0.
func wantNumber(t *testing.T, text string, size int, sign bool, want uint64, ok bool) {
	t.Helper()
	n, got := lex.Number(text, size, sign)
	if n != want || got != ok {
		t.Errorf("%.40q, %d, %v: %d, %v, want %d, %v", text, size, sign, n, got, want, ok)
	}
}

// P3.1
func TestTokensOfTheExample(t *testing.T) {
	wantTokens(t, `a1 -5{"x":name`, "{:", "name(a1)0 number(-5)3 sign({)5 quoted(x)6 sign(:)9 name(name)10 end()14")
}

// P3.1
func TestTokensEndWithTheEnd(t *testing.T) {
	wantTokens(t, "", "", "end()0")
	wantTokens(t, "a", "", "name(a)0 end()1")
	wantTokens(t, "   ", "", "end()3")
	wantTokens(t, "a \n", "", "name(a)0 end()3")
	wantTokens(t, "a//", "", "name(a)0 end()3")
	wantTokens(t, "a // b\n", "", "name(a)0 end()7")
}

// P3.1
func TestTokensOfNames(t *testing.T) {
	for _, name := range []string{"a", "z", "A", "Z", "_", "__", "a0", "_9", "aZ09_", "struct", "e5", strings.Repeat("n", api.MaxSchema)} {
		wantTokens(t, name, "", "name("+name+")0 end()"+strconv.Itoa(len(name)))
	}
	wantTokens(t, "a-b", "-", "name(a)0 sign(-)1 name(b)2 end()3")
	wantTokens(t, "a-1", "-", "name(a)0 number(-1)1 end()3")
	wantTokens(t, `a"b"c`, "", "name(a)0 quoted(b)1 name(c)4 end()5")
	wantTokens(t, "a.b", ".", "name(a)0 sign(.)1 name(b)2 end()3")
	wantTokens(t, "a/**/", "/*", "name(a)0 sign(/)1 sign(*)2 sign(*)3 sign(/)4 end()5")
}

// P3.1
func TestTokensOfNumbers(t *testing.T) {
	for _, number := range []string{"0", "1", "9", "10", "1234567890", "-1", "-9", "-10", "12345678901234567890", "99999999999999999999", "-12345678901234567890"} {
		for _, signs := range []string{"", "-", ".-"} {
			wantTokens(t, number, signs, "number("+number+")0 end()"+strconv.Itoa(len(number)))
		}
	}
	wantTokens(t, "5-3", "", "number(5)0 number(-3)1 end()3")
	wantTokens(t, "--3", "-", "sign(-)0 number(-3)1 end()3")
	wantTokens(t, "- 3", "-", "sign(-)0 number(3)2 end()3")
	wantTokens(t, "-a", "-", "sign(-)0 name(a)1 end()2")
	wantTokens(t, "-", "-", "sign(-)0 end()1")
	wantTokens(t, "1.5", ".", "number(1)0 sign(.)1 number(5)2 end()3")
	wantTokens(t, "1//2", "", "number(1)0 end()4")
	wantTokens(t, `1"2"3`, "", "number(1)0 quoted(2)1 number(3)4 end()5")
	wantTokens(t, "+1", "+", "sign(+)0 number(1)1 end()2")
}

// P3.1
func TestTokensRefuseWhatBeginsAsANumber(t *testing.T) {
	for _, text := range []string{
		"007", "00", "01", "-0", "-00", "-01", "5a", "5_", "5Z", "0x1", "0a", "-5a", "12e3",
		"123456789012345678901", "-123456789012345678901", "000000000000000000000", strings.Repeat("1", api.MaxSchema),
	} {
		wantFault(t, text, "", api.ErrToken, 0)
		wantFault(t, text, "-", api.ErrToken, 0)
	}
	wantFault(t, "a 5a", "", api.ErrToken, 2)
	wantFault(t, "a -0", "-", api.ErrToken, 2)
	wantFault(t, "--0", "-", api.ErrToken, 1)
	wantFault(t, "-", "", api.ErrToken, 0)
	wantFault(t, "- 1", "", api.ErrToken, 0)
	wantFault(t, "-a", "", api.ErrToken, 0)
	wantFault(t, "5é", "", api.ErrToken, 1) // no letter in the sense of the chapter
}

// P3.1
func TestTokensOfQuotedTexts(t *testing.T) {
	for _, inner := range []string{"", " ", "a", "5a", "//", "a//b", "{:}", "!", "#[]", "~", "'", "é", "\u007fa"[1:], "\u0080", "€", "\uFFFD", "😀", "\U0010FFFF", strings.Repeat("x", api.MaxSchema-2)} {
		wantTokens(t, `"`+inner+`"`, "", "quoted("+inner+")0 end()"+strconv.Itoa(len(inner)+2))
	}
	wantTokens(t, `"a""b"`, "", "quoted(a)0 quoted(b)3 end()6")
	wantTokens(t, ` "a" "" x`, "", `quoted(a)1 quoted()5 name(x)8 end()9`)
}

// P3.1
func TestTokensTakeJustPlainBytesBetweenQuotes(t *testing.T) {
	for c := range 256 {
		text := `"a` + string([]byte{byte(c)}) + `b"`
		switch {
		case c < 32, c == 127, c == '\\', c > 127:
			wantFault(t, text, "", api.ErrToken, 0)
		case c == '"':
			wantFault(t, text, "", api.ErrToken, 4) // "a" stands, then b, and a quote without another
		default:
			wantTokens(t, text, "", "quoted("+text[1:4]+")0 end()5")
		}
	}
}

// P3.1
func TestTokensRefuseWhatBeginsAsAQuotedText(t *testing.T) {
	for _, text := range []string{
		`"`, `"a`, `"a\"b"`, `"a\n"`, "\"a\nb\"", "\"a\x00\"", "\"\x7f\"",
		"\"\xc3\"", "\"\xc3", "\"\xed\xa0\x80\"", "\"\xc0\x80\"", "\"\xf4\x90\x80\x80\"", "\"\x80\"", "\"\xff\"",
	} {
		wantFault(t, text, "", api.ErrToken, 0)
		wantFault(t, "a "+text, "", api.ErrToken, 2)
	}
	wantFault(t, `a"`, "", api.ErrToken, 1)
	wantFault(t, `"a"b"`, "", api.ErrToken, 4)
}

// P3.1
func TestTokensOfSigns(t *testing.T) {
	wantTokens(t, "{}:;=,<>", "{}:;=,<>", "sign({)0 sign(})1 sign(:)2 sign(;)3 sign(=)4 sign(,)5 sign(<)6 sign(>)7 end()8")
	wantTokens(t, "!=", "!=", "sign(!)0 sign(=)1 end()2")
	wantTokens(t, `\`+"\x00\x7f\xff", `\`+"\x00\x7f\xff", `sign(\)0 sign(`+"\x00)1 sign(\x7f)2 sign(\xff)3 end()4")
	wantFault(t, "a;", ":", api.ErrToken, 1)
	wantFault(t, ";", "", api.ErrToken, 0)
	wantFault(t, "a ;b", "", api.ErrToken, 2)
}

// P3.1
func TestTokensTakeEachByteAsWhatItIs(t *testing.T) {
	for c := range 256 {
		one := string([]byte{byte(c)})
		text := "a " + one
		switch {
		case c == 32 || c == 9 || c == 10 || c == 13:
			wantTokens(t, text, "", "name(a)0 end()3")
		case 'a' <= c && c <= 'z' || 'A' <= c && c <= 'Z' || c == '_':
			wantTokens(t, text, "", "name(a)0 name("+one+")2 end()3")
		case '0' <= c && c <= '9':
			wantTokens(t, text, "", "name(a)0 number("+one+")2 end()3")
		case c == '"':
			wantFault(t, text, "", api.ErrToken, 2)
		default:
			wantFault(t, text, "", api.ErrToken, 2)
			wantTokens(t, text, one, "name(a)0 sign("+one+")2 end()3")
		}
	}
}

// P3.1
func TestTokensGoOverBlanksAndRemarks(t *testing.T) {
	wantTokens(t, " \t\n\ra \t\n\rb", "", "name(a)4 name(b)9 end()10")
	wantTokens(t, "// a\nb", "", "name(b)5 end()6")
	wantTokens(t, "//\n//\n b", "", "name(b)7 end()8")
	wantTokens(t, "a//\nb", "", "name(a)0 name(b)4 end()5")
	wantTokens(t, "a // x // y\n // z\n\tb//", "", "name(a)0 name(b)19 end()22")
	wantTokens(t, "//\ra", "", "end()4") // byte 13 ends no line
	wantTokens(t, "// \"\xff\x00 5a ;\na", "", "name(a)12 end()13")
	wantTokens(t, "///\na", "/", "name(a)4 end()5")
	wantTokens(t, "/ /", "/", "sign(/)0 sign(/)2 end()3")
	wantTokens(t, "/", "/", "sign(/)0 end()1")
	wantTokens(t, "a/b//c", "/", "name(a)0 sign(/)1 name(b)2 end()6")
	wantFault(t, "/", "", api.ErrToken, 0)
	wantFault(t, "a /b", "", api.ErrToken, 2)
	for _, c := range []string{"\v", "\f", "\x00", "\x85", "\xa0", "\u00a0", "\ufeff"} {
		wantFault(t, "a"+c, "", api.ErrToken, 1)
	}
}

// P3.1
func TestTokensOfTheLongestText(t *testing.T) {
	most := strings.Repeat(" ", api.MaxSchema)
	wantTokens(t, most, "", "end()8192")
	wantFault(t, most+" ", "", api.ErrMany, 8192)
	wantFault(t, strings.Repeat(";", api.MaxSchema+1), "", api.ErrMany, 8192) // ahead of ErrToken at 0
	wantFault(t, strings.Repeat("a ", api.MaxSchema), "", api.ErrMany, 8192)  // ahead of too many tokens
	wantFault(t, most[1:]+";", "", api.ErrToken, 8191)
}

// P3.1
func TestTokensOfTheMostTokens(t *testing.T) {
	names := strings.Repeat("a ", api.MaxTokens-1)
	l, f := lex.Tokens(names, "")
	if f != (api.Fault{}) || len(l) != api.MaxTokens || l[api.MaxTokens-1] != (api.Token{Kind: api.TEnd, At: 4094}) {
		t.Errorf("2047 names: %d tokens, %v", len(l), f)
	}
	wantFault(t, names+"b", "", api.ErrMany, 4095) // the end would be the 2049th
	wantFault(t, names+"b  // c", "", api.ErrMany, 4101)
	wantFault(t, names+"b  c", "", api.ErrMany, 4097)
	wantFault(t, names+"b ;", "", api.ErrMany, 4096) // ahead of ErrToken there
	wantFault(t, names+";", "", api.ErrToken, 4094)
	wantFault(t, strings.Repeat("{", api.MaxSchema), "{", api.ErrMany, api.MaxTokens)
}

// P3.1
func TestTokensAnswerTheFirstFault(t *testing.T) {
	wantFault(t, "a 5a ;", "", api.ErrToken, 2)
	wantFault(t, "a ; 5a", "", api.ErrToken, 2)
	wantFault(t, "// \n\n 007", "", api.ErrToken, 6)
}

// P1
func TestTokensEndAtAllArguments(t *testing.T) {
	some := []string{"", "a", "1", "-", "\"", "/", "//", " ", "\n", "\\", "\x00", "\xff", "é", ";", "0", "_"}
	for _, signs := range []string{"", "a", "0", "\"", " ", "--", "aa", "\xff\xff", strings.Repeat("a", 300)} {
		for _, x := range some {
			for _, y := range some {
				for _, z := range some {
					wantSound(t, x+y+z, signs)
				}
			}
		}
	}
}

// wantSound checks that there is a fault within the text, or tokens that stand in it one behind the other.
func wantSound(t *testing.T, text, signs string) {
	t.Helper()
	l, f := lex.Tokens(text, signs)
	if f != (api.Fault{}) {
		if len(l) != 0 || f.Code != api.ErrToken || f.At < 0 || f.At >= len(text) {
			t.Errorf("%q, %q: %v beside %s", text, signs, f, told(l))
		}
		return
	}
	if len(l) == 0 || l[len(l)-1] != (api.Token{Kind: api.TEnd, At: len(text)}) {
		t.Errorf("%q, %q: no end: %s", text, signs, told(l))
	}
	behind := 0
	for _, k := range l {
		if k.At < behind || !strings.Contains(text[k.At:], k.Text) {
			t.Errorf("%q, %q: %s", text, signs, told(l))
		}
		behind = k.At + len(k.Text)
	}
}

// P3.2
func TestNumberOfTheExamples(t *testing.T) {
	wantNumber(t, "255", 1, false, 255, true)
	wantNumber(t, "256", 1, false, 0, false)
	wantNumber(t, "-1", 8, false, 0, false)
	wantNumber(t, "128", 1, true, 0, false)
	wantNumber(t, "-128", 1, true, 1<<64-128, true)
}

// P3.2
func TestNumberAtTheEndsOfEachSize(t *testing.T) {
	for _, x := range []struct {
		size                        int
		least, most, mostWithout    string
		below, above, aboveWithout  string
		leastNum, mostNum, wholeNum uint64
	}{
		{1, "-128", "127", "255", "-129", "128", "256", 1<<64 - 1<<7, math.MaxInt8, math.MaxUint8},
		{2, "-32768", "32767", "65535", "-32769", "32768", "65536", 1<<64 - 1<<15, math.MaxInt16, math.MaxUint16},
		{4, "-2147483648", "2147483647", "4294967295", "-2147483649", "2147483648", "4294967296", 1<<64 - 1<<31, math.MaxInt32, math.MaxUint32},
		{8, "-9223372036854775808", "9223372036854775807", "18446744073709551615", "-9223372036854775809", "9223372036854775808", "18446744073709551616", 1 << 63, math.MaxInt64, math.MaxUint64},
	} {
		wantNumber(t, x.least, x.size, true, x.leastNum, true)
		wantNumber(t, x.most, x.size, true, x.mostNum, true)
		wantNumber(t, x.below, x.size, true, 0, false)
		wantNumber(t, x.above, x.size, true, 0, false)
		wantNumber(t, x.mostWithout, x.size, true, 0, false)
		wantNumber(t, x.mostWithout, x.size, false, x.wholeNum, true)
		wantNumber(t, x.above, x.size, false, x.mostNum+1, true)
		wantNumber(t, x.aboveWithout, x.size, false, 0, false)
		wantNumber(t, x.least, x.size, false, 0, false)
		for _, sign := range []bool{false, true} {
			wantNumber(t, "0", x.size, sign, 0, true)
			wantNumber(t, "1", x.size, sign, 1, true)
			wantNumber(t, "99999999999999999999", x.size, sign, 0, false)
			wantNumber(t, "-99999999999999999999", x.size, sign, 0, false)
			wantNumber(t, "-18446744073709551615", x.size, sign, 0, false)
		}
		wantNumber(t, "-1", x.size, true, math.MaxUint64, true)
		wantNumber(t, "-1", x.size, false, 0, false)
	}
}

// P3.2
func TestNumberOfAllSmallNumbers(t *testing.T) {
	for n := -70000; n <= 70000; n++ {
		text := strconv.Itoa(n)
		for size, bits := range map[int]int{1: 8, 2: 16, 4: 32, 8: 64} {
			without, with := uint64(0), uint64(0)
			okWithout := n >= 0 && (bits >= 32 || n < 1<<bits)
			okWith := bits >= 32 || -(1<<(bits-1)) <= n && n < 1<<(bits-1)
			if okWithout {
				without = uint64(n)
			}
			if okWith {
				with = uint64(int64(n))
			}
			wantNumber(t, text, size, false, without, okWithout)
			wantNumber(t, text, size, true, with, okWith)
		}
	}
}

// P3.2
func TestNumberRefusesWhatIsNoNumber(t *testing.T) {
	for _, text := range []string{
		"", "-", "--1", "+1", "-0", "00", "01", "007", "-01", "a", "5a", "5_", "1_0", "0x1", "1e2", "1.0", "1.", ".1",
		" 1", "1 ", "- 1", "1\n", "1//", "\"1\"", "1,", "1 2", "1-2", "1-", "١", "1é", "true", "\x00", "1\x00", "\xff",
		"000000000000000000000", "123456789012345678901", "-123456789012345678901", "000000000000000000001", strings.Repeat("9", 1000),
	} {
		for _, size := range []int{1, 2, 4, 8} {
			wantNumber(t, text, size, false, 0, false)
			wantNumber(t, text, size, true, 0, false)
		}
	}
}

// P3.2
func TestNumberRefusesWhatIsNoSize(t *testing.T) {
	for _, size := range []int{math.MinInt, -8, -1, 0, 3, 5, 6, 7, 9, 16, 64, math.MaxInt32, math.MaxInt} {
		for _, text := range []string{"0", "1", "-1", "", "a"} {
			wantNumber(t, text, size, false, 0, false)
			wantNumber(t, text, size, true, 0, false)
		}
	}
}

// R6, R8: each call answers lists of its own.
func TestTokensAnswersAreNew(t *testing.T) {
	one, _ := lex.Tokens("a b", "")
	one[0].Text, one[1].At = "changed", 99
	wantTokens(t, "a b", "", "name(a)0 name(b)2 end()3")
}
