package arena_test

import (
	"bytes"
	"math"
	"testing"

	"transom/arena"
)

// want checks all that an arena tells: its bytes, and whether it is over (then Len stands, and Bytes answers nothing).
func want(t *testing.T, what string, a *arena.Arena, all string, over bool) {
	t.Helper()
	if a.Len() != len(all) || a.Over() != over {
		t.Errorf("%s: Len %d, Over %v, want %d, %v", what, a.Len(), a.Over(), len(all), over)
	}
	b, ok := a.Bytes()
	if ok == over {
		t.Errorf("%s: Bytes: %v", what, ok)
	}
	if over && len(b) != 0 {
		t.Errorf("%s: Bytes of an arena that is over: % x", what, b)
	}
	if !over && string(b) != all {
		t.Errorf("%s: Bytes: % x, want % x", what, b, all)
	}
}

// wantPlace checks what Room, Put and Num answer; beside false the place is 0.
func wantPlace(t *testing.T, what string, at int, ok bool, place int, there bool) {
	t.Helper()
	if at != place || ok != there {
		t.Errorf("%s: %d, %v, want %d, %v", what, at, ok, place, there)
	}
}

// holding is an arena with some bytes.
func holding(most int, text string) *arena.Arena {
	a := arena.New(most)
	a.Put([]byte(text))
	return a
}

// spoiled is an arena that is over, with some bytes that were put while it wasn't.
func spoiled(text string) *arena.Arena {
	a := holding(len(text), text)
	a.Room(1)
	return a
}

// P2.1
func TestNewIsEmpty(t *testing.T) {
	for _, most := range []int{math.MinInt, -1, 0, 1, 2, 7, math.MaxInt32, math.MaxInt32 + 1, math.MaxInt} {
		want(t, "new", arena.New(most), "", false)
	}
}

// P2.1
func TestNewHoldsJustItsMost(t *testing.T) {
	for _, most := range []int{math.MinInt, -2, -1, 0, 1, 2, 5, 1000} {
		room := max(most, 0)
		a := arena.New(most)
		for i := range room {
			at, ok := a.Put([]byte{1})
			wantPlace(t, "a byte", at, ok, i, true)
		}
		all := string(bytes.Repeat([]byte{1}, room))
		want(t, "full", a, all, false)
		at, ok := a.Room(0)
		wantPlace(t, "no bytes more in a full one", at, ok, room, true)
		at, ok = a.Put([]byte{1})
		wantPlace(t, "one more", at, ok, 0, false)
		want(t, "one more", a, all, true)
	}
}

// P2.1
func TestRoomIsOfBytes0(t *testing.T) {
	a := arena.New(10)
	for _, step := range []struct{ n, place int }{{2, 0}, {0, 2}, {3, 2}, {5, 5}} {
		at, ok := a.Room(step.n)
		wantPlace(t, "Room", at, ok, step.place, true)
	}
	want(t, "Room", a, string(make([]byte, 10)), false)
	a = arena.New(6)
	a.Put([]byte("abc"))
	at, ok := a.Room(3)
	wantPlace(t, "Room behind bytes", at, ok, 3, true)
	want(t, "Room behind bytes", a, "abc\x00\x00\x00", false)
}

// P2.1
func TestRoomOfTooManyIsOver(t *testing.T) {
	for _, n := range []int{math.MinInt, -4, -3, -1, 3, 4, 5, math.MaxInt32, math.MaxInt - 3, math.MaxInt - 2, math.MaxInt - 1, math.MaxInt} {
		a := holding(5, "abc")
		at, ok := a.Room(n)
		wantPlace(t, "Room", at, ok, 0, false)
		want(t, "Room", a, "abc", true)
	}
	for _, n := range []int{math.MinInt, -1, math.MaxInt} {
		a := holding(math.MaxInt, "abc") // the sum wraps round, or leads before the beginning
		at, ok := a.Room(n)
		wantPlace(t, "Room of the greatest", at, ok, 0, false)
		want(t, "Room of the greatest", a, "abc", true)
	}
}

// P2.1: with room for all that was ever asked for, once it is over nothing is put any more.
func TestOverStaysOver(t *testing.T) {
	for _, n := range []int{-1, 6} {
		a := holding(7, "ab")
		a.Room(n)
		for range 2 {
			at, ok := a.Room(0)
			wantPlace(t, "Room(0)", at, ok, 0, false)
			at, ok = a.Room(1)
			wantPlace(t, "Room(1)", at, ok, 0, false)
			at, ok = a.Put(nil)
			wantPlace(t, "Put of nothing", at, ok, 0, false)
			at, ok = a.Put([]byte("c"))
			wantPlace(t, "Put", at, ok, 0, false)
			at, ok = a.Num(1, 7)
			wantPlace(t, "Num", at, ok, 0, false)
			at, ok = a.Num(3, 7)
			wantPlace(t, "Num of no size", at, ok, 0, false)
			for _, to := range []int{-1, 0, 1, 2, 4} {
				if a.Align(to) {
					t.Errorf("Align(%d)", to)
				}
			}
			if a.Set(0, 1, 'x') {
				t.Error("Set")
			}
			want(t, "over", a, "ab", true)
		}
	}
}

// P2.1
func TestPut(t *testing.T) {
	a := arena.New(6)
	for _, step := range []struct {
		text  string
		place int
	}{{"ab", 0}, {"", 2}, {"c", 2}, {"def", 3}, {"", 6}} {
		at, ok := a.Put([]byte(step.text))
		wantPlace(t, "Put "+step.text, at, ok, step.place, true)
	}
	want(t, "Put", a, "abcdef", false)
	at, ok := a.Put(nil)
	wantPlace(t, "Put of nothing", at, ok, 6, true)
	at, ok = a.Put([]byte("g"))
	wantPlace(t, "Put without room", at, ok, 0, false)
	want(t, "Put without room", a, "abcdef", true)
}

// P2.1: of bytes for which there isn't room none is put, not even the first.
func TestPutIsWholeOrNot(t *testing.T) {
	a := holding(4, "ab")
	at, ok := a.Put([]byte("cde"))
	wantPlace(t, "Put", at, ok, 0, false)
	want(t, "Put", a, "ab", true)
}

// R6
func TestPutNeitherKeepsNorChanges(t *testing.T) {
	whole := []byte("abcdef")
	part := whole[1:3]
	a := arena.New(20)
	a.Put(part)
	a.Put([]byte("xyz"))
	a.Set(0, 1, '!')
	if string(whole) != "abcdef" {
		t.Errorf("what was put is changed: %q", whole)
	}
	whole[1], whole[2] = '1', '2'
	want(t, "what was put has changed", a, "!cxyz", false)
}

// P2.1
func TestNum(t *testing.T) {
	const n = 0x8877665544332211
	a := arena.New(16)
	for _, step := range []struct{ size, place int }{{1, 0}, {2, 1}, {4, 3}, {8, 7}, {1, 15}} {
		at, ok := a.Num(step.size, n)
		wantPlace(t, "Num", at, ok, step.place, true)
	}
	want(t, "Num", a, "\x11"+"\x11\x22"+"\x11\x22\x33\x44"+"\x11\x22\x33\x44\x55\x66\x77\x88"+"\x11", false)
	at, ok := a.Num(1, 0)
	wantPlace(t, "Num without room", at, ok, 0, false)
	if !a.Over() {
		t.Error("Num without room: not over")
	}
}

// P2.1
func TestNumWithTooLittleRoom(t *testing.T) {
	for _, size := range []int{1, 2, 4, 8} {
		a := holding(2+size-1, "ab")
		at, ok := a.Num(size, math.MaxUint64)
		wantPlace(t, "Num", at, ok, 0, false)
		want(t, "Num", a, "ab", true)
	}
}

// P2.1: a size that is none lets nothing happen, be there room or not.
func TestNumOfNoSize(t *testing.T) {
	for _, most := range []int{2, 100} {
		a := holding(most, "ab")
		for _, size := range []int{math.MinInt, -8, -1, 0, 3, 5, 6, 7, 9, 16, 1<<32 + 1, math.MaxInt} {
			at, ok := a.Num(size, math.MaxUint64)
			wantPlace(t, "Num", at, ok, 0, false)
			want(t, "Num", a, "ab", false)
		}
	}
}

// P2.2
func TestAlign(t *testing.T) {
	for length := range 20 {
		for to := 1; to <= 20; to++ {
			end := 0
			for end < length {
				end += to
			}
			text := string(bytes.Repeat([]byte{0xee}, length))
			a := holding(end, text) // just as much room as it needs
			if !a.Align(to) {
				t.Errorf("Align(%d) of %d", to, length)
			}
			want(t, "Align", a, text+string(make([]byte, end-length)), false)
			if end == length {
				continue
			}
			a = holding(end-1, text) // one too few
			if a.Align(to) {
				t.Errorf("Align(%d) of %d without room", to, length)
			}
			want(t, "Align without room", a, text, true)
		}
	}
}

// P2.2
func TestAlignToNothing(t *testing.T) {
	for _, to := range []int{0, -1, -2, -8, math.MinInt} {
		for _, text := range []string{"", "abc"} {
			a := holding(100, text)
			if a.Align(to) {
				t.Errorf("Align(%d)", to)
			}
			want(t, "Align", a, text, false)
		}
	}
}

// P2.2
func TestAlignToTheGreatest(t *testing.T) {
	a := arena.New(5)
	if !a.Align(math.MaxInt) || a.Over() {
		t.Error("0 is a multiple of all")
	}
	for _, most := range []int{5, math.MaxInt32 - 1} {
		a = holding(most, "ab")
		if a.Align(math.MaxInt) {
			t.Error("Align to the greatest")
		}
		want(t, "Align to the greatest", a, "ab", true)
	}
}

// P2.2
func TestSet(t *testing.T) {
	const n = 0x8877665544332211
	for _, size := range []int{1, 2, 4, 8} {
		for at := range 12 - size + 1 {
			a := holding(100, "abcdefghijkl")
			all := []byte("abcdefghijkl")
			copy(all[at:], []byte{0x11, 0x22, 0x33, 0x44, 0x55, 0x66, 0x77, 0x88}[:size])
			if !a.Set(at, size, n) {
				t.Errorf("Set(%d, %d)", at, size)
			}
			want(t, "Set", a, string(all), false)
		}
	}
}

// P2.2: a place that isn't there is no lack of room: nothing happens, behind the last byte neither, whatever memory lies there.
func TestSetRefuses(t *testing.T) {
	extremes := []int{math.MinInt, -8, -1, 0, 1, 2, 3, 4, 5, 6, 7, 8, 9, 16, math.MaxInt - 1, math.MaxInt}
	for _, text := range []string{"", "a", "abcde", "abcdefgh"} {
		for _, at := range extremes {
			for _, size := range extremes {
				sized := size == 1 || size == 2 || size == 4 || size == 8
				if sized && at >= 0 && at <= len(text) && at+size <= len(text) {
					continue
				}
				a := holding(100, text)
				if a.Set(at, size, math.MaxUint64) {
					t.Errorf("Set(%d, %d) of %d", at, size, len(text))
				}
				want(t, "Set", a, text, false)
				a.Room(10)
				want(t, "Room after Set", a, text+string(make([]byte, 10)), false)
			}
		}
	}
}

// P2.2
func TestSetWhenOver(t *testing.T) {
	a := spoiled("abcd")
	for _, size := range []int{1, 2, 3, 4} {
		if a.Set(0, size, 7) {
			t.Errorf("Set(0, %d) of an arena that is over", size)
		}
	}
	want(t, "Set", a, "abcd", true)
}

// P2.2, R6
func TestBytesAreNewMemory(t *testing.T) {
	a := holding(10, "abc")
	first, _ := a.Bytes()
	second, _ := a.Bytes()
	first[0] = 'X'
	if first = append(first, '!'); len(first) != 4 {
		t.Error("append")
	}
	if string(second) != "abc" {
		t.Errorf("an answer has changed: %q", second)
	}
	want(t, "an answer was changed", a, "abc", false)
	a.Set(1, 1, 'Y')
	a.Put([]byte("de"))
	if string(second) != "abc" {
		t.Errorf("an answer has changed: %q", second)
	}
	want(t, "more bytes", a, "aYcde", false)
}

// P2.1: what was put stays where it is, and room is of bytes 0, however far an arena grows.
func TestGrowth(t *testing.T) {
	a := arena.New(3 * 5000)
	var all []byte
	for i := range 5000 {
		piece := []byte{byte(i), byte(i >> 8)}
		at, ok := a.Put(piece)
		if at != len(all) || !ok {
			t.Fatalf("Put %d: %d, %v", i, at, ok)
		}
		all = append(all, piece...)
		if at, ok = a.Room(1); at != len(all) || !ok {
			t.Fatalf("Room %d: %d, %v", i, at, ok)
		}
		all = append(all, 0)
	}
	want(t, "growth", a, string(all), false)
}

// R8
func TestArenasAreAlone(t *testing.T) {
	a, b := arena.New(4), arena.New(4)
	a.Put([]byte("abcd"))
	a.Room(1)
	want(t, "the other", b, "", false)
	b.Put([]byte("x"))
	want(t, "the other", b, "x", false)
	want(t, "the first", a, "abcd", true)
}

// R7
func TestNilArena(t *testing.T) {
	var a *arena.Arena
	if a.Len() != 0 || a.Over() {
		t.Error("Len, Over")
	}
	for _, n := range []int{math.MinInt, -1, 0, 1, 8, math.MaxInt} {
		at, ok := a.Room(n)
		wantPlace(t, "Room", at, ok, 0, false)
		at, ok = a.Num(n, 5)
		wantPlace(t, "Num", at, ok, 0, false)
		if a.Align(n) {
			t.Errorf("Align(%d)", n)
		}
		if a.Set(0, n, 5) || a.Set(n, 1, 5) {
			t.Errorf("Set: %d", n)
		}
	}
	for _, b := range [][]byte{nil, {}, []byte("a")} {
		at, ok := a.Put(b)
		wantPlace(t, "Put", at, ok, 0, false)
	}
	if b, ok := a.Bytes(); ok || len(b) != 0 {
		t.Errorf("Bytes: % x, %v", b, ok)
	}
	if a.Len() != 0 || a.Over() {
		t.Error("Len, Over afterwards")
	}
}

// The chapter's examples.
func TestExamples(t *testing.T) {
	a := arena.New(4)
	at, ok := a.Num(2, 258)
	wantPlace(t, "Num(2, 258)", at, ok, 0, true)
	want(t, "Num(2, 258)", a, "\x02\x01", false)
	if !a.Align(4) {
		t.Error("Align(4)")
	}
	want(t, "Align(4)", a, "\x02\x01\x00\x00", false)
	at, ok = a.Room(1)
	wantPlace(t, "Room(1)", at, ok, 0, false)
	want(t, "Room(1)", a, "\x02\x01\x00\x00", true)
	a = holding(2, "ab")
	if !a.Set(1, 1, 7) {
		t.Error("Set(1, 1, 7)")
	}
	want(t, "Set(1, 1, 7)", a, "a\x07", false)
}
