package capwrite_test

import (
	"math"
	"strings"
	"testing"

	"transom/api"
	"transom/capread"
	"transom/capwrite"
	"transom/view"
	"transom/wire"
)

// most: how many words may stand behind a form's head.
const most = api.MaxOutput/8 - 1

// ofBytes: so many bytes.
func ofBytes(count int) api.Val { return raw(strings.Repeat("a", count)) }

// wantWords checks that a value's form has so many words behind its head, and that it is just what may be, or too long.
func wantWords(t *testing.T, what string, s api.Schema, v api.Val, words int) {
	t.Helper()
	form := formOf(s, v)
	if len(form) != 8+8*words {
		t.Errorf("%s: %d words, not %d", what, len(form)/8-1, words)
	}
	if long := check(t, s, v, form); long != (words > most) {
		t.Errorf("%s: of %d words: too long: %v", what, words, long)
	}
}

// P9.1, P8: a form just as long as may be, and the next longer one.
func TestLongest(t *testing.T) {
	for _, x := range []struct {
		field string
		count int // of bytes, or of elements, with which the form is the longest that may be
		of    func(count int) api.Val
	}{
		{"data", 8 * (most - 2), ofBytes},
		{"text", 8*(most-2) - 1, ofBytes},
		{"list<bool>", 64 * (most - 2), func(n int) api.Val { return times(n, num(1)) }},
		{"list<i8>", 8 * (most - 2), func(n int) api.Val { return times(n, num(-1)) }},
		{"list<E>", 4 * (most - 2), func(n int) api.Val { return times(n, num(1)) }},
		{"list<u32>", 2 * (most - 2), func(n int) api.Val { return times(n, num(7)) }},
		{"list<i64>", most - 2, func(n int) api.Val { return times(n, num(-7)) }},
		{"list<text>", most - 2, func(n int) api.Val { return times(n, raw("")) }},
		{"list<list<list<T>>>", most - 2, func(n int) api.Val { return times(n, api.Val{}) }},
		{"list<T>", most - 3, func(n int) api.Val { return times(n, there(num(0))) }},
		{"list<P>", most - 3, func(n int) api.Val { return times(n, there(raw(""))) }},
		{"list<data>", 8 * (most - 3), func(n int) api.Val { return many(ofBytes(n)) }},
		{"list<P>", 8 * (most - 4), func(n int) api.Val { return many(there(ofBytes(n))) }},
		{"list<list<T>>", most - 4, func(n int) api.Val { return many(times(n, there(num(5)))) }},
		{"P", 8 * (most - 3), func(n int) api.Val { return there(ofBytes(n)) }},
	} {
		s := read(t, "enum E { a, b } struct T { x: u8; } struct P { d: data; } struct S { x: "+x.field+"; } root S;")
		wantWords(t, x.field+", the longest", s, there(x.of(x.count)), most)
		wantWords(t, x.field+", longer", s, there(x.of(x.count+1)), most+1)
	}
}

// P9.1, P8: each object may be the one that has no room any more, whatever comes of it or behind it.
func TestNoRoom(t *testing.T) {
	const text = `struct T { x: u8; t: text; } struct S { d: data; a: T; b: list<T>; c: list<u64>; e: list<list<u8>>; f: text; g: data; } root S;`
	s := read(t, text)
	rest := []api.Val{
		there(num(1), raw("abc")), many(there(num(2), raw("d")), there(num(3), raw("efghijkl"))), many(num(4), num(5)),
		many(many(num(6)), many(), many(num(7))), raw("mnopqrst"), raw("uvw"),
	}
	const words = 3 + 8 + 2 + 5 + 2 + 1 // of what comes of rest
	for pad := most - 8 - words - 2; pad <= most-8+1; pad++ {
		v := there(append([]api.Val{ofBytes(8 * pad)}, rest...)...)
		wantWords(t, "behind a pad", s, v, 8+pad+words)
		for i := range rest {
			less := there(append([]api.Val{ofBytes(8 * pad)}, make([]api.Val, len(rest))...)...)
			less.Kids[1+i] = rest[i]
			wantWords(t, "of one field", s, less, 8+pad+[]int{3, 8, 2, 5, 2, 1}[i])
		}
	}
}

// P9.1: far too long, in whatever way.
func TestFarTooLong(t *testing.T) {
	s := read(t, `struct T { a: u64; b: u64; c: u64; d: u64; } struct S { x: list<T>; l: list<list<list<bool>>>; t: list<text>; } root S;`)
	none := api.Val{}
	four := there(num(1), num(2), num(3), num(4))
	for what, v := range map[string]api.Val{
		"structs":        there(times(1<<14, four), none, none),
		"bits":           there(none, many(many(times(1<<20, num(1)))), none),
		"bits in many":   there(none, times(100, times(100, times(100, num(1)))), none),
		"a text":         there(none, none, many(ofBytes(1<<20))),
		"texts":          there(none, none, times(1<<14, ofBytes(1))),
		"null":           there(none, none, times(1<<14, raw(""))),
		"one of another": there(times(1<<10, four), times(1<<10, many()), times(1<<10, ofBytes(100))),
	} {
		if b, e := capwrite.Write(s, view.Of(v), wire.New(plenty)); e != api.ErrLarge || b != nil {
			t.Errorf("%s: error %d, %d bytes", what, e, len(b))
		}
	}
}

// long is a list of so many elements, all alike.
type long struct{ count int }

func (l long) Len() int            { return l.count }
func (l long) Num(int) uint64      { return 1 }
func (l long) Bytes(int) []byte    { return []byte("a") }
func (l long) Sub(int) view.View   { return holder{l} }
func (l long) List(int) view.Items { return l }

// holder is a struct whose fields are all such a list.
type holder struct{ list long }

func (x holder) Num(int) uint64            { return 0 }
func (x holder) Bytes(int) []byte          { return nil }
func (x holder) Sub(int) (view.View, bool) { return x, true }
func (x holder) List(int) view.Items       { return x.list }

// P1: lists longer than anything, lists of fewer than no elements, and structs without an end: a call ends.
func TestNoEnd(t *testing.T) {
	for _, x := range []string{"list<bool>", "list<u64>", "list<text>", "list<list<u8>>", "list<T>", "list<list<list<T>>>", "T"} {
		s := read(t, "struct T { x: u64; l: list<T>; } struct S { x: "+x+"; s: S; } root S;")
		for _, count := range []int{1 << 20, math.MaxInt32, 1 << 58, 1<<58 + 1, 1<<60 + 1, 1 << 61, 1<<61 + 1, 1 << 62, math.MaxInt - 1, math.MaxInt} {
			if b, e := capwrite.Write(s, holder{long{count}}, wire.New(math.MaxInt)); e != api.ErrLarge || b != nil {
				t.Errorf("%s, %d elements: error %d, %d bytes", x, count, e, len(b))
			}
			if b, e := capwrite.Write(s, holder{long{count}}, wire.New(1000)); e != api.ErrBudget || b != nil {
				t.Errorf("%s, %d elements, a small budget: error %d, %d bytes", x, count, e, len(b))
			}
		}
		for _, count := range []int{0, -1, math.MinInt} {
			if b, e := capwrite.Write(s, holder{long{count}}, wire.New(plenty)); e != api.ErrLarge || b != nil {
				t.Errorf("%s, %d elements: error %d, %d bytes", x, count, e, len(b))
			}
		}
	}
}

// P9.1, P3: with each budget the answer is ErrBudget, or that with plenty.
func TestBudgets(t *testing.T) {
	s := read(t, `struct T { x: u8; t: text; } struct S { n: list<bool>; r: list<T>; s: S; l: list<list<u8>>; d: data; } root S;`)
	none := api.Val{}
	inner := there(times(3, num(1)), none, none, many(many(num(1)), many()), raw("xyz"))
	for what, x := range map[string]struct {
		v    api.Val
		want api.Errno
	}{
		"good":      {there(times(100, num(1)), many(there(num(1), raw("abc")), there(num(2), raw(""))), inner, none, none), api.OK},
		"nothing":   {there(none, none, none, none, none), api.OK},
		"too large": {there(none, none, inner, many(many(num(1))), ofBytes(api.MaxOutput)), api.ErrLarge},
	} {
		want := ""
		if x.want == api.OK {
			want = formOf(s, x.v)
		}
		out, ends := 0, 0
		for budget := -2; ends < 100; budget++ {
			m := wire.New(budget)
			b, e := capwrite.Write(s, view.Of(x.v), m)
			switch {
			case e == api.ErrBudget && ends == 0 && budget < 1<<16:
				out++
				if b != nil || m.Left() != 0 || !m.Out() {
					t.Errorf("%s, budget %d: %x beside ErrBudget, %d left", what, budget, b, m.Left())
				}
			case e == x.want && string(b) == want && !m.Out():
				ends++
			default:
				t.Fatalf("%s, budget %d: error %d, %x", what, budget, e, b)
			}
		}
		if out < 4 {
			t.Errorf("%s: %d budgets were too small", what, out)
		}
	}
}

// R7, R10: a meter that is none, or out, has nothing.
func TestNoMeter(t *testing.T) {
	s := read(t, `struct S { x: u8; } root S;`)
	out := wire.New(5)
	out.Take(6)
	for _, m := range []*wire.Meter{nil, out, wire.New(0), wire.New(-1), wire.New(math.MinInt)} {
		if b, e := capwrite.Write(s, view.Of(there(num(1))), m); e != api.ErrBudget || b != nil {
			t.Errorf("%x, error %d", b, e)
		}
	}
}

// P3, P8, R10: what is enough for a request is enough to read a message and to write it, whatever becomes of its length.
func TestEnough(t *testing.T) {
	wide := ""
	for i := range api.MaxFields {
		wide += string(rune('a'+i)) + ":list<U>;"
	}
	large, good := 0, 0
	for what, x := range map[string]struct {
		field string
		words func(room int) []uint64 // behind the root's pointer: the root's struct, and what there is in so many words behind it
	}{
		"bits":                    {"list<bool>", func(room int) []uint64 { return []uint64{ofList(0, 1, 64*room)} }},
		"enums":                   {"list<E>", func(room int) []uint64 { return []uint64{ofList(0, 3, 4*room)} }},
		"bytes":                   {"data", func(room int) []uint64 { return []uint64{ofList(0, 2, 8*room)} }},
		"null":                    {"list<text>", func(room int) []uint64 { return []uint64{ofList(0, 6, room)} }},
		"structs of nothing":      {"list<U>", func(room int) []uint64 { return []uint64{ofList(0, 7, 0), tag(room, 0, 0)} }},
		"wide structs of nothing": {"list<T>", func(room int) []uint64 { return []uint64{ofList(0, 7, 0), tag(room, 0, 0)} }},
		"empty texts":             {"list<text>", func(room int) []uint64 { return emptyTexts(room) }},
	} {
		text := "enum E{a}struct T{" + wide + "}struct U{x:u8;}struct S{l:" + x.field + ";}root S;"
		s := read(t, text)
		for _, count := range []int{3, 4, 10, 100, 200, 1000, api.MaxInput/8 - 1} {
			words := append([]uint64{ofStruct(0, 0, 1)}, x.words(count-2)...)
			words = append(words, make([]uint64, count-len(words))...)
			b := []byte(message(words...))
			m := wire.New(1000 + 100*(len(b)+8)*(len(text)+8))
			v, e := capread.Read(s, b, m)
			if e != api.OK {
				t.Errorf("%s of %d words: read: error %d", what, count, e)
				continue
			}
			want := formOf(s, view.Tree(s, s.Root, v))
			form, e := capwrite.Write(s, v, m)
			switch {
			case len(want) > api.MaxOutput && e == api.ErrLarge:
				large++
			case len(want) <= api.MaxOutput && e == api.OK && string(form) == want:
				good++
			default:
				t.Errorf("%s of %d words: error %d, %s", what, count, e, differ(string(form), want))
			}
		}
	}
	if large < 2 || good < 40 {
		t.Errorf("too few: %d too large, %d others", large, good)
	}
}

// emptyTexts: a list of them in so many words: half of these are pointers, each to a word of 0.
func emptyTexts(room int) []uint64 {
	count := room / 2
	words := []uint64{ofList(0, 6, count)}
	for range count {
		words = append(words, ofList(count-1, 2, 1))
	}
	return words
}
