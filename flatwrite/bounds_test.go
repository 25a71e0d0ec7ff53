package flatwrite_test

import (
	"encoding/binary"
	"math"
	"strings"
	"testing"

	"transom/api"
	"transom/capread"
	"transom/flatread"
	"transom/flatwrite"
	"transom/view"
	"transom/wire"
)

// ofBytes: so many bytes.
func ofBytes(count int) api.Val { return raw(strings.Repeat("a", count)) }

// wantLength checks that a value's form is so long, and that it is just what may be, or too long.
func wantLength(t *testing.T, what string, s api.Schema, v api.Val, length int) {
	t.Helper()
	form := formOf(s, v)
	if len(form) != length {
		t.Errorf("%s: %d bytes, not %d", what, len(form), length)
	}
	if long := check(t, s, v, form); long != (length > api.MaxOutput) {
		t.Errorf("%s: of %d bytes: too long: %v", what, length, long)
	}
}

// P11.1, P8: a form just as long as may be, and the next longer ones.
func TestLongest(t *testing.T) {
	const most = api.MaxOutput
	for _, x := range []struct {
		field      string
		head, each int // the form's bytes of no elements, and those that each one adds
		of         func(count int) api.Val
	}{
		{"data", 24, 1, ofBytes},
		{"text", 25, 1, ofBytes},
		{"list<bool>", 24, 1, func(n int) api.Val { return times(n, num(1)) }},
		{"list<i8>", 24, 1, func(n int) api.Val { return times(n, num(-1)) }},
		{"list<E>", 24, 1, func(n int) api.Val { return times(n, num(1)) }},
		{"list<i16>", 24, 2, func(n int) api.Val { return times(n, num(-2)) }},
		{"list<u32>", 24, 4, func(n int) api.Val { return times(n, num(7)) }},
		{"list<i64>", 24, 8, func(n int) api.Val { return times(n, num(-7)) }},
		{"list<data>", 24, 8, func(n int) api.Val { return times(n, raw("")) }},
		{"list<list<u32>>", 24, 8, func(n int) api.Val { return times(n, many()) }},
		{"list<list<list<T>>>", 24, 8, func(n int) api.Val { return times(n, api.Val{}) }},
		{"list<T>", 24, 12, func(n int) api.Val { return times(n, there(num(0))) }},
		{"list<P>", 24, 12, func(n int) api.Val { return times(n, there(raw(""))) }},
		{"list<data>", 32, 1, func(n int) api.Val { return many(ofBytes(n)) }},
		{"list<list<u8>>", 32, 1, func(n int) api.Val { return many(times(n, num(9))) }},
		{"P", 40, 1, func(n int) api.Val { return there(ofBytes(n)) }},
		{"list<P>", 48, 1, func(n int) api.Val { return many(there(ofBytes(n))) }},
	} {
		s := read(t, "enum E { a, b } struct T { x: u8; } struct P { d: data; } struct S { x: "+x.field+"; } root S;")
		count := (most - x.head) / x.each
		wantLength(t, x.field+", the longest", s, there(x.of(count)), x.head+count*x.each)
		wantLength(t, x.field+", longer", s, there(x.of(count+1)), x.head+(count+1)*x.each)
		wantLength(t, x.field+", far longer", s, there(x.of(2*count)), x.head+2*count*x.each)
	}
}

// P11.2: a form as long as is read, and the next longer one, which isn't.
func TestLongestRead(t *testing.T) {
	s := read(t, `struct S { x: data; } root S;`)
	for length := api.MaxInput - 3; length < api.MaxInput+4; length++ {
		wantLength(t, "data", s, there(ofBytes(length-24)), length)
	}
}

// P11.1, P8: each object may be the one that has no room any more, whatever comes of it or behind it.
func TestNoRoom(t *testing.T) {
	s := read(t, `struct T { x: u8; t: text; y: u64; } struct S { d: data; a: T; b: list<T>; c: list<u64>; e: list<list<u64>>; f: text; g: data; } root S;`)
	none := api.Val{}
	for i, field := range []api.Val{
		none, there(num(1), raw("abc"), num(2)), many(there(num(2), raw("d"), num(0)), there(num(3), raw("efghijklmno"), num(1))), many(num(4), num(5)),
		many(many(num(6)), many(), many(num(7))), raw("mnopqrs"), raw("uvwx"),
	} {
		v := there(ofBytes(1), none, none, none, none, raw(""), raw(""))
		if i > 0 {
			v.Kids[i] = field
		}
		more := len(formOf(s, v))
		just := 0
		for pad := api.MaxOutput - more - 12; pad <= api.MaxOutput; pad++ {
			v.Kids[0] = ofBytes(pad)
			form := formOf(s, v)
			if len(form) == api.MaxOutput {
				just++
			}
			check(t, s, v, form)
		}
		if just == 0 {
			t.Errorf("field %d: no form was just as long as may be", i)
		}
	}
	all := there(ofBytes(1), there(num(1), raw("abc"), num(2)), times(2, there(num(2), raw("d"), num(3))), many(num(4), num(5)), times(3, many(num(6))), raw("mno"), raw("p"))
	more := len(formOf(s, all))
	for pad := api.MaxOutput - more - 12; pad <= api.MaxOutput; pad++ {
		all.Kids[0] = ofBytes(pad)
		check(t, s, all, formOf(s, all))
	}
}

// P11.1: far too long, in whatever way.
func TestFarTooLong(t *testing.T) {
	s := read(t, `struct T { a: u64; b: u64; c: u64; d: u64; } struct S { x: list<T>; l: list<list<list<bool>>>; t: list<text>; } root S;`)
	none := api.Val{}
	four := there(num(1), num(2), num(3), num(4))
	for what, v := range map[string]api.Val{
		"structs":        there(times(1<<14, four), none, none),
		"numbers":        there(none, many(many(times(1<<20, num(1)))), none),
		"many numbers":   there(none, times(100, times(100, times(100, num(1)))), none),
		"a text":         there(none, none, many(ofBytes(1<<20))),
		"texts":          there(none, none, times(1<<14, ofBytes(1))),
		"empty texts":    there(none, none, times(1<<14, raw(""))),
		"one of another": there(times(1<<10, four), times(1<<10, many()), times(1<<10, ofBytes(100))),
	} {
		if b, e := flatwrite.Write(s, view.Of(v), wire.New(plenty)); e != api.ErrLarge || b != nil {
			t.Errorf("%s: error %d, %d bytes", what, e, len(b))
		}
	}
}

// endless is a list of so many elements, all alike.
type endless struct{ count int }

func (l endless) Len() int            { return l.count }
func (l endless) Num(int) uint64      { return 1 }
func (l endless) Bytes(int) []byte    { return []byte("a") }
func (l endless) Sub(int) view.View   { return holder{l} }
func (l endless) List(int) view.Items { return l }

// holder is a struct whose fields are all such a list.
type holder struct{ list endless }

func (x holder) Num(int) uint64            { return 0 }
func (x holder) Bytes(int) []byte          { return nil }
func (x holder) Sub(int) (view.View, bool) { return x, true }
func (x holder) List(int) view.Items       { return x.list }

// P1: lists longer than anything, lists of fewer than no elements, and structs without an end: a call ends.
func TestNoEnd(t *testing.T) {
	for _, x := range []string{"list<bool>", "list<u64>", "list<text>", "list<list<u8>>", "list<T>", "list<list<list<T>>>", "T"} {
		s := read(t, "struct T { x: u64; l: list<T>; } struct S { x: "+x+"; s: S; } root S;")
		for _, count := range []int{1 << 15, 1 << 20, math.MaxInt32, 1 << 58, 1<<60 + 1, 1 << 61, 1<<61 + 1, 1 << 62, math.MaxInt - 1, math.MaxInt} {
			if b, e := flatwrite.Write(s, holder{endless{count}}, wire.New(math.MaxInt)); e != api.ErrLarge || b != nil {
				t.Errorf("%s, %d elements: error %d, %d bytes", x, count, e, len(b))
			}
			if b, e := flatwrite.Write(s, holder{endless{count}}, wire.New(1000)); e != api.ErrBudget || b != nil {
				t.Errorf("%s, %d elements, a small budget: error %d, %d bytes", x, count, e, len(b))
			}
		}
		for _, count := range []int{0, -1, math.MinInt} {
			if b, e := flatwrite.Write(s, holder{endless{count}}, wire.New(plenty)); e != api.ErrLarge || b != nil {
				t.Errorf("%s, %d elements: error %d, %d bytes", x, count, e, len(b))
			}
		}
	}
}

// P11.1, P3: with each budget the answer is ErrBudget, or that with plenty.
func TestBudgets(t *testing.T) {
	s := read(t, `struct T { x: u8; t: text; } struct S { n: list<bool>; r: list<T>; s: S; l: list<list<u8>>; d: data; } root S;`)
	none := api.Val{}
	inner := there(times(3, num(1)), none, none, many(many(num(1)), many()), raw("xyz"))
	for what, x := range map[string]struct {
		v    api.Val
		want api.Errno
	}{
		"good":      {there(times(100, num(1)), many(there(num(1), raw("abc")), there(num(2), raw(""))), inner, none, none), api.OK},
		"nothing":   {there(none, none, none, none, none), api.OK},
		"too large": {there(times(api.MaxOutput, num(1)), none, inner, many(many(num(1))), none), api.ErrLarge},
	} {
		want := ""
		if x.want == api.OK {
			want = formOf(s, x.v)
		}
		out, ends := 0, 0
		for budget := -2; ends < 100; budget++ {
			m := wire.New(budget)
			b, e := flatwrite.Write(s, view.Of(x.v), m)
			switch {
			case e == api.ErrBudget && ends == 0 && budget < 1<<16:
				out++
				if b != nil || m.Left() != 0 || !m.Out() {
					t.Errorf("%s, budget %d: %x beside ErrBudget, %d left", what, budget, b, m.Left())
				}
			case e == x.want && string(b) == want && !m.Out():
				ends++
			default:
				t.Fatalf("%s, budget %d: error %d, %x", what, budget, e, b)
			}
		}
		if out < 4 {
			t.Errorf("%s: %d budgets were too small", what, out)
		}
	}
}

// R7, R10: a meter that is none, or out, has nothing.
func TestNoMeter(t *testing.T) {
	s := read(t, `struct S { x: u8; } root S;`)
	out := wire.New(5)
	out.Take(6)
	for _, m := range []*wire.Meter{nil, out, wire.New(0), wire.New(-1), wire.New(math.MinInt)} {
		if b, e := flatwrite.Write(s, view.Of(there(num(1))), m); e != api.ErrBudget || b != nil {
			t.Errorf("%x, error %d", b, e)
		}
	}
}

// wideText: a schema's text, as short as may be, of a list of structs that have as many fields as may be.
func wideText(field string) string {
	wide := ""
	for i := range api.MaxFields {
		wide += string(rune('a'+i)) + ":list<U>;"
	}
	return "enum E{a}struct T{" + wide + "}struct U{x:u8;}struct S{l:" + field + ";}root S;"
}

// wantEnough checks that what is enough for a request is enough to write what was read with it; is the form too long?
func wantEnough(t *testing.T, what string, s api.Schema, v view.View, m *wire.Meter) (large bool) {
	t.Helper()
	want := formOf(s, view.Tree(s, s.Root, v))
	form, e := flatwrite.Write(s, v, m)
	if len(want) > api.MaxOutput {
		if e != api.ErrLarge {
			t.Errorf("%s: error %d", what, e)
		}
		return true
	}
	if e != api.OK || string(form) != want {
		t.Errorf("%s: error %d, %s", what, e, differ(string(form), want))
	}
	return false
}

// P3, P8, R10: what is enough for a request is enough to read a message in words and to write it in tables.
func TestEnoughOfWords(t *testing.T) {
	ofList := func(offset, code, count int) uint64 {
		return uint64(offset)<<2 | 1 | uint64(code)<<32 | uint64(count)<<35
	}
	large, good := 0, 0
	for what, x := range map[string]struct {
		field string
		words func(room int) []uint64 // behind the root's pointer: the root's struct, and what there is in so many words behind it
	}{
		"bits":                    {"list<bool>", func(room int) []uint64 { return []uint64{ofList(0, 1, 64*room)} }},
		"enums":                   {"list<E>", func(room int) []uint64 { return []uint64{ofList(0, 3, 4*room)} }},
		"bytes":                   {"data", func(room int) []uint64 { return []uint64{ofList(0, 2, 8*room)} }},
		"null":                    {"list<text>", func(room int) []uint64 { return []uint64{ofList(0, 6, room)} }},
		"structs of nothing":      {"list<U>", func(room int) []uint64 { return []uint64{ofList(0, 7, 0), uint64(room) << 2} }},
		"wide structs of nothing": {"list<T>", func(room int) []uint64 { return []uint64{ofList(0, 7, 0), uint64(room) << 2} }},
	} {
		text := wideText(x.field)
		s := read(t, text)
		for _, count := range []int{3, 4, 10, 100, 200, 1000, api.MaxInput/8 - 1} {
			words := append([]uint64{1 << 48}, x.words(count-2)...)
			words = append(words, make([]uint64, count-len(words))...)
			b := binary.LittleEndian.AppendUint32(make([]byte, 4), uint32(count))
			for _, word := range words {
				b = binary.LittleEndian.AppendUint64(b, word)
			}
			m := wire.New(1000 + 100*(len(b)+8)*(len(text)+8))
			v, e := capread.Read(s, b, m)
			switch {
			case e != api.OK:
				t.Errorf("%s of %d words: read: error %d", what, count, e)
			case wantEnough(t, what, s, v, m):
				large++
			default:
				good++
			}
		}
	}
	if large < 2 || good < 40 {
		t.Errorf("too few: %d too large, %d others", large, good)
	}
}

// P3, P8, R10: and a message in tables, of which one object may stand at many places.
func TestEnoughOfTables(t *testing.T) {
	good := 0
	for what, x := range map[string]struct {
		field  string
		size   int    // of an element
		object []any  // at place x, to which all elements point that do
		fill   string // of all other elements
	}{
		"numbers":   {"list<u8>", 1, nil, "\x07"},
		"bools":     {"list<bool>", 1, nil, "\x01"},
		"structs":   {"list<T>", 4, []any{at("m"), short(4, 4), at("x"), from("m")}, ""},
		"bytes":     {"list<data>", 4, []any{at("x"), long(0)}, ""},
		"texts":     {"list<text>", 4, []any{at("x"), long(0), "\x00"}, ""},
		"no lists":  {"list<list<u64>>", 4, []any{at("x"), long(0)}, ""},
		"no number": {"data", 1, nil, "\xff"},
	} {
		text := wideText(x.field)
		s := read(t, text)
		for _, room := range []int{40, 100, 1000, api.MaxInput - 30} {
			reached := map[string]int{"structs": 12, "bytes": 8, "texts": 9, "no lists": 8}[what] // by each element
			count := (room - 20) / max(1, reached)
			l := []any{to("t"), at("l"), short(6, 8, 4), at("t"), from("l"), to("n"), at("n"), long(count)}
			for range count {
				if x.object != nil {
					l = append(l, to("x"))
				} else {
					l = append(l, x.fill)
				}
			}
			b := []byte(message(append(l, x.object...)...))
			b = append(b, make([]byte, max(0, room-len(b)))...)
			m := wire.New(1000 + 100*(len(b)+8)*(len(text)+8))
			v, e := flatread.Read(s, b, m)
			switch {
			case e != api.OK:
				t.Errorf("%s, %d: read: error %d", what, room, e)
			case !wantEnough(t, what, s, v, m):
				good++
			}
		}
	}
	if good < 25 {
		t.Errorf("too few: %d", good)
	}
}
