package wire_test

import (
	"bytes"
	"math"
	"testing"

	"transom/api"
	"transom/wire"
)

// extremes are places, counts and sizes at and beyond all bounds.
var extremes = []int{math.MinInt, math.MinInt + 1, -8, -1, 0, 1, 2, 3, 4, 5, 7, 8, 9, 16, 1 << 31, math.MaxInt - 1, math.MaxInt}

func wantMeter(t *testing.T, what string, m *wire.Meter, left int, out bool) {
	t.Helper()
	if m.Left() != left || m.Out() != out {
		t.Errorf("%s: Left %d, Out %v, want %d, %v", what, m.Left(), m.Out(), left, out)
	}
}

// P1.1
func TestMeterIsTaken(t *testing.T) {
	m := wire.New(10)
	wantMeter(t, "new", m, 10, false)
	for i, step := range []struct {
		n    int
		ok   bool
		left int
		out  bool
	}{
		{3, true, 7, false},
		{0, true, 7, false},
		{-1, false, 7, false}, // below 0: nothing happens
		{math.MinInt, false, 7, false},
		{7, true, 0, false}, // just what is left
		{0, true, 0, false},
		{1, false, 0, true},
		{0, false, 0, true},
		{-1, false, 0, true},
	} {
		if ok := m.Take(step.n); ok != step.ok {
			t.Errorf("step %d: Take(%d): %v", i, step.n, ok)
		}
		wantMeter(t, "after a step", m, step.left, step.out)
	}
}

// P1.1
func TestMeterRunsOut(t *testing.T) {
	m := wire.New(3)
	if !m.Take(2) || m.Take(2) {
		t.Error("Take(2), Take(2) of 3")
	}
	wantMeter(t, "run out with one left", m, 0, true)
	if m.Take(0) || m.Take(1) {
		t.Error("a meter that is out gives steps")
	}
	m = wire.New(math.MaxInt)
	if !m.Take(math.MaxInt) || m.Take(math.MaxInt) {
		t.Error("the greatest budget")
	}
	wantMeter(t, "the greatest budget", m, 0, true)
}

// P1.1
func TestMeterWithoutSteps(t *testing.T) {
	for _, budget := range []int{0, -1, math.MinInt} {
		m := wire.New(budget)
		wantMeter(t, "new", m, 0, false)
		if !m.Take(0) || m.Out() {
			t.Errorf("New(%d): Take(0)", budget)
		}
		if m.Take(1) || !m.Out() {
			t.Errorf("New(%d): Take(1)", budget)
		}
	}
	var none *wire.Meter
	if none.Take(0) || none.Take(1) || none.Left() != 0 || none.Out() {
		t.Error("a nil meter")
	}
}

// P1.1, R8
func TestMetersAreAlone(t *testing.T) {
	a, b := wire.New(5), wire.New(5)
	a.Take(9)
	wantMeter(t, "the other", b, 5, false)
}

// P1.2
func TestSized(t *testing.T) {
	for n := -20; n <= 300; n++ {
		want := n == 1 || n == 2 || n == 4 || n == 8
		if wire.Sized(n) != want {
			t.Errorf("Sized(%d): %v", n, !want)
		}
	}
	for _, n := range []int{math.MinInt, math.MaxInt, 1<<32 + 1, 1<<62 + 8} {
		if wire.Sized(n) {
			t.Errorf("Sized(%d)", n)
		}
	}
}

// P1.2
func TestWithin(t *testing.T) {
	b := make([]byte, 5, 9)
	for at := -2; at <= 10; at++ {
		for n := -2; n <= 10; n++ {
			want := at >= 0 && n >= 0 && at+n <= 5
			if wire.Within(b, at, n) != want {
				t.Errorf("Within(5 bytes, %d, %d): %v", at, n, !want)
			}
		}
	}
	for _, c := range [][2]int{{1, math.MaxInt}, {math.MaxInt, 1}, {math.MaxInt, math.MaxInt}, {math.MinInt, math.MinInt}, {math.MinInt, 5}, {5, math.MinInt}} {
		if wire.Within(b, c[0], c[1]) {
			t.Errorf("Within(5 bytes, %d, %d)", c[0], c[1])
		}
	}
	if !wire.Within(nil, 0, 0) || wire.Within(nil, 0, 1) || wire.Within(nil, 1, 0) {
		t.Error("Within(nothing)")
	}
}

// P1.2
func TestLoad(t *testing.T) {
	b := []byte{0x01, 0x02, 0x83, 0x04, 0x05, 0x06, 0x07, 0xf8, 0xff}
	for _, c := range []struct {
		at, size int
		want     uint64
	}{
		{0, 1, 0x01}, {2, 1, 0x83}, {8, 1, 0xff},
		{0, 2, 0x0201}, {1, 2, 0x8302}, {7, 2, 0xfff8},
		{0, 4, 0x04830201}, {5, 4, 0xfff80706},
		{0, 8, 0xf807060504830201}, {1, 8, 0xfff8070605048302},
	} {
		if n, ok := wire.Load(b, c.at, c.size); n != c.want || !ok {
			t.Errorf("Load(%d, %d): %x, %v, want %x", c.at, c.size, n, ok, c.want)
		}
	}
	room := make([]byte, 4, 16) // what lies in spare room isn't within
	for _, b := range [][]byte{nil, {}, {1}, b, room} {
		for _, at := range extremes {
			for _, size := range extremes {
				fits := wire.Sized(size) && at >= 0 && at <= len(b) && size <= len(b)-at
				n, ok := wire.Load(b, at, size)
				if ok != fits || !ok && n != 0 {
					t.Errorf("Load(%d bytes, %d, %d): %x, %v", len(b), at, size, n, ok)
				}
			}
		}
	}
}

// P1.2
func TestStore(t *testing.T) {
	const n = 0x8877665544332211
	for _, size := range []int{1, 2, 4, 8} {
		for at := range 12 - size + 1 {
			b := bytes.Repeat([]byte{0xaa}, 12)
			want := bytes.Repeat([]byte{0xaa}, 12)
			copy(want[at:], []byte{0x11, 0x22, 0x33, 0x44, 0x55, 0x66, 0x77, 0x88}[:size])
			if !wire.Store(b, at, size, n) || !bytes.Equal(b, want) {
				t.Errorf("Store(%d, %d): % x, want % x", at, size, b, want)
			}
			back, ok := wire.Load(b, at, size)
			if low := uint64(n) << (64 - 8*size) >> (64 - 8*size); back != low || !ok {
				t.Errorf("Load(%d, %d) of what was stored: %x, %v", at, size, back, ok)
			}
		}
	}
}

// P1.2, R4
func TestStoreRefuses(t *testing.T) {
	whole := bytes.Repeat([]byte{0xaa}, 24)
	b := whole[4:12:20]
	for _, at := range extremes {
		for _, size := range extremes {
			if wire.Sized(size) && at >= 0 && at <= len(b) && size <= len(b)-at {
				continue
			}
			if wire.Store(b, at, size, math.MaxUint64) {
				t.Errorf("Store(8 bytes, %d, %d)", at, size)
			}
		}
	}
	if !bytes.Equal(whole, bytes.Repeat([]byte{0xaa}, 24)) {
		t.Errorf("what was refused changed bytes: % x", whole)
	}
	if wire.Store(nil, 0, 1, 0) || wire.Store([]byte{}, 0, 1, 0) {
		t.Error("Store into nothing")
	}
}

// P1.2
func TestPart(t *testing.T) {
	whole := []byte("0123456789")
	b := whole[:6]
	for at := -1; at <= 11; at++ {
		for n := -1; n <= 11; n++ {
			p, ok := wire.Part(b, at, n)
			if want := at >= 0 && n >= 0 && at+n <= 6; ok != want {
				t.Errorf("Part(%d, %d): %v", at, n, ok)
			}
			if !ok && p != nil {
				t.Errorf("Part(%d, %d): %q beside false", at, n, p)
			}
			if ok && (string(p) != string(whole[at:at+n]) || cap(p) != n) {
				t.Errorf("Part(%d, %d): %q, room for %d", at, n, p, cap(p))
			}
		}
	}
	for _, at := range extremes {
		for _, n := range extremes {
			if p, ok := wire.Part(nil, at, n); ok != (at == 0 && n == 0) || len(p) != 0 {
				t.Errorf("Part(nothing, %d, %d): %q, %v", at, n, p, ok)
			}
		}
	}
}

// P1.2
func TestPartIsOfTheBytesThemselves(t *testing.T) {
	b := []byte("abcdef")
	p, _ := wire.Part(b, 2, 3)
	b[2] = 'X'
	if string(p) != "Xde" {
		t.Errorf("a part is a copy: %q", p)
	}
	if p = append(p, '!'); string(b) != "abXdef" {
		t.Errorf("a part has room behind: %q", b)
	}
}

// P1.3
func TestNext(t *testing.T) {
	for at := -2; at <= 7; at++ {
		for n := -2; n <= 7; n++ {
			for most := -2; most <= 7; most++ {
				want, fits := 0, at >= 0 && n >= 0 && at+n <= most
				if fits {
					want = at + n
				}
				if got, ok := wire.Next(at, n, most); got != want || ok != fits {
					t.Errorf("Next(%d, %d, %d): %d, %v", at, n, most, got, ok)
				}
			}
		}
	}
}

// P1.3
func TestNextAtTheBounds(t *testing.T) {
	const most, least = math.MaxInt, math.MinInt
	for _, c := range []struct {
		at, n, most, want int
		ok                bool
	}{
		{5, most, 10, 0, false},
		{most, 5, 10, 0, false},
		{most, most, most, 0, false},
		{most, 1, most, 0, false},
		{1, most, most, 0, false},
		{most, most, -2, 0, false}, // the sum wraps round to -2
		{most, 0, most, most, true},
		{0, most, most, most, true},
		{most - 5, 5, most, most, true},
		{least, most, most, 0, false},
		{most, least, most, 0, false},
		{least, least, 0, 0, false}, // the sum wraps round to 0
		{0, 0, least, 0, false},
		{-1, 1, 0, 0, false},
		{1, -1, 0, 0, false},
	} {
		if got, ok := wire.Next(c.at, c.n, c.most); got != c.want || ok != c.ok {
			t.Errorf("Next(%d, %d, %d): %d, %v", c.at, c.n, c.most, got, ok)
		}
	}
}

// P1.3
func TestSigned(t *testing.T) {
	for _, c := range []struct {
		n    uint64
		size int
		want uint64
	}{
		{0xff, 1, math.MaxUint64}, {0x7f, 1, 0x7f}, {0x80, 1, 0xffffffffffffff80}, {0, 1, 0},
		{0x80, 2, 0x80}, {0x8000, 2, 0xffffffffffff8000}, {0x7fff, 2, 0x7fff},
		{0x8000, 4, 0x8000}, {0x80000000, 4, 0xffffffff80000000}, {0x7fffffff, 4, 0x7fffffff},
		{0x8000000000000000, 8, 0x8000000000000000}, {math.MaxUint64, 8, math.MaxUint64}, {0x80000000, 8, 0x80000000},
		// the bytes above the lowest ones say nothing
		{0x1ff, 1, math.MaxUint64}, {0xabcdef0000000012, 1, 0x12}, {0xffffffffffff7f01, 2, 0x7f01}, {0x1ffff8001, 4, 0xffffffffffff8001}, {0xffffffff00000001, 4, 1},
		// other sizes
		{0xff, 0, 0xff}, {0xffffff, 3, 0xffffff}, {0xff, -1, 0xff}, {0xff, 5, 0xff}, {0x80, 16, 0x80}, {0xff, math.MinInt, 0xff}, {0xff, math.MaxInt, 0xff}, {0xff, 1<<32 + 1, 0xff},
	} {
		if got := wire.Signed(c.n, c.size); got != c.want {
			t.Errorf("Signed(%x, %d): %x, want %x", c.n, c.size, got, c.want)
		}
	}
	for i := range 1 << 16 {
		if got := wire.Signed(uint64(i), 2); int64(got) != int64(int16(i)) {
			t.Errorf("Signed(%x, 2): %x", i, got)
		}
		if got := wire.Signed(uint64(i), 1); int64(got) != int64(int8(i)) {
			t.Errorf("Signed(%x, 1): %x", i, got)
		}
	}
}

// P1.3
func TestSizeAndSignOfKinds(t *testing.T) {
	sizes := map[api.Kind]int{
		api.Bool: 1, api.I8: 1, api.U8: 1, api.Enum: 1,
		api.I16: 2, api.U16: 2,
		api.I32: 4, api.U32: 4,
		api.I64: 8, api.U64: 8,
	}
	signs := map[api.Kind]bool{api.I8: true, api.I16: true, api.I32: true, api.I64: true}
	for i := range 256 { // all that a Kind can be; those of no meaning have size 0 and no sign
		k := api.Kind(i)
		if got := wire.Size(k); got != sizes[k] {
			t.Errorf("Size(%d): %d, want %d", k, got, sizes[k])
		}
		if got := wire.Sign(k); got != signs[k] {
			t.Errorf("Sign(%d): %v", k, got)
		}
	}
}

// P1.4
func TestUtf8(t *testing.T) {
	for _, c := range []struct {
		text string
		want int
	}{
		{"", -1}, {"a", -1}, {"\x00", -1}, {"\x7f", -1}, {"aß€😀z", -1},
		{"\u0080", -1}, {"\u07ff", -1}, {"\u0800", -1}, {"\ud7ff", -1}, {"\ue000", -1}, {"\ufffd", -1}, {"\uffff", -1}, {"\U00010000", -1}, {"\U0010ffff", -1},
		{"a\xc3", 1}, {"a\xc3b", 1}, {"é\xe2\x82", 2}, {"\xf0\x9f\x98", 0}, // cut off
		{"\x80", 0}, {"ab\xbf", 2}, {"é\x80", 2}, {"\ufffd\x80", 3}, // a byte that goes on where nothing began
		{"\xc0\x80", 0}, {"\xc1\xbf", 0}, {"\xe0\x9f\xbf", 0}, {"\xf0\x8f\xbf\xbf", 0}, // a byte too many
		{"\xed\xa0\x80", 0}, {"x\xed\xbf\xbf", 1}, // surrogates
		{"\xf4\x90\x80\x80", 0}, {"\xf5\x80\x80\x80", 0}, {"\xf8\x88\x80\x80\x80", 0}, {"\xff", 0}, {"😀\xfe", 4}, // above 10FFFF
		{"\xe2\x28\xa1", 0}, {"\xe2\x82\x28", 0}, {"\xf0\x9f\x98\x28", 0},
		{"a\xffb\xff", 1}, // the first of several
	} {
		if got := wire.Utf8([]byte(c.text)); got != c.want {
			t.Errorf("Utf8(%+q): %d, want %d", c.text, got, c.want)
		}
	}
	if wire.Utf8(nil) != -1 {
		t.Error("Utf8(nothing)")
	}
}

// signAt is how many bytes the sign at the head of b has, by the Unicode standard's table of well-formed sequences; 0: there is none.
func signAt(b []byte) int {
	rows := []struct {
		first, last byte // of the first byte
		low, high   byte // of the second one
		n           int
	}{
		{0x00, 0x7f, 0, 0, 1},
		{0xc2, 0xdf, 0x80, 0xbf, 2},
		{0xe0, 0xe0, 0xa0, 0xbf, 3}, {0xe1, 0xec, 0x80, 0xbf, 3}, {0xed, 0xed, 0x80, 0x9f, 3}, {0xee, 0xef, 0x80, 0xbf, 3},
		{0xf0, 0xf0, 0x90, 0xbf, 4}, {0xf1, 0xf3, 0x80, 0xbf, 4}, {0xf4, 0xf4, 0x80, 0x8f, 4},
	}
	for _, r := range rows {
		if b[0] < r.first || r.last < b[0] {
			continue
		}
		if len(b) < r.n || r.n > 1 && (b[1] < r.low || r.high < b[1]) {
			return 0
		}
		for i := 2; i < r.n; i++ {
			if b[i] < 0x80 || 0xbf < b[i] {
				return 0
			}
		}
		return r.n
	}
	return 0
}

func firstWrong(b []byte) int {
	for at := 0; at < len(b); {
		n := signAt(b[at:])
		if n == 0 {
			return at
		}
		at += n
	}
	return -1
}

// P1.4: every sequence of four bytes that stand at the bounds of the standard's table, and all that such sequences begin with.
func TestUtf8AgainstTheStandardsTable(t *testing.T) {
	edges := []byte{0x00, 0x41, 0x7f, 0x80, 0x8f, 0x90, 0x9f, 0xa0, 0xbf, 0xc0, 0xc1, 0xc2, 0xdf, 0xe0, 0xe1, 0xec, 0xed, 0xee, 0xef, 0xf0, 0xf1, 0xf3, 0xf4, 0xf5, 0xff}
	b := make([]byte, 4)
	for i := range len(edges) * len(edges) * len(edges) * len(edges) {
		for at := range 4 {
			b[at] = edges[i%len(edges)]
			i /= len(edges)
		}
		for n := range 5 {
			if got, want := wire.Utf8(b[:n]), firstWrong(b[:n]); got != want {
				t.Fatalf("Utf8(% x): %d, want %d", b[:n], got, want)
			}
		}
	}
}

// P1, R6: at all arguments the calls end, don't panic, and leave what they look at as it was.
func TestNothingPanicsOrChanges(t *testing.T) {
	whole := []byte("ab\xff\x00\xf0\x9f\x98\x80cdefgh")
	before := string(whole)
	for _, b := range [][]byte{nil, {}, whole[:1], whole[2:8], whole} {
		wire.Utf8(b)
		for _, at := range extremes {
			for _, n := range extremes {
				wire.Load(b, at, n)
				wire.Within(b, at, n)
				wire.Part(b, at, n)
				wire.Signed(uint64(at), n)
				for _, most := range extremes {
					wire.Next(at, n, most)
				}
			}
		}
	}
	if string(whole) != before {
		t.Errorf("bytes were changed: % x", whole)
	}
}
