package jsonwrite_test

import (
	"encoding/binary"
	"math"
	"strings"
	"testing"

	"transom/api"
	"transom/capread"
	"transom/flatread"
	"transom/jsonread"
	"transom/jsonwrite"
	"transom/sbe"
	"transom/view"
	"transom/wire"
)

// check holds what Write answers of a value against the chapter: the form, or that it is too long.
func check(t *testing.T, s api.Schema, v api.Val, want string) (long bool) {
	t.Helper()
	b, e := jsonwrite.Write(s, view.Of(v), wire.New(plenty))
	long = len(want) > api.MaxOutput
	switch {
	case long && (e != api.ErrLarge || b != nil):
		t.Fatalf("%v: %d bytes: error %d, %d bytes", s, len(want), e, len(b))
	case !long && (e != api.OK || string(b) != want):
		t.Fatalf("%v: error %d, %.1000s, not %.1000s", s, e, b, want)
	case !long:
		wantBack(t, s, v, b)
	}
	return long
}

// wantLength checks that a value's form is so long, and that it is just what may be, or too long.
func wantLength(t *testing.T, what string, s api.Schema, v api.Val, length int) {
	t.Helper()
	form := formOf(s, v)
	if len(form) != length {
		t.Errorf("%s: %d bytes, not %d", what, len(form), length)
	}
	if long := check(t, s, v, form); long != (length > api.MaxOutput) {
		t.Errorf("%s: of %d bytes: too long: %v", what, length, long)
	}
}

// ofBytes: so many bytes.
func ofBytes(count int) api.Val { return raw(strings.Repeat("a", count)) }

// lengths: fields of any length, with the bytes that each of what they have adds to the form.
var lengths = []struct {
	field string
	each  int
	of    func(count int) api.Val
}{
	{"text", 1, ofBytes},
	{"text", 2, func(n int) api.Val { return raw(strings.Repeat("\n", n)) }},
	{"text", 2, func(n int) api.Val { return raw(strings.Repeat("\"", n)) }},
	{"text", 6, func(n int) api.Val { return raw(strings.Repeat("\x00", n)) }},
	{"text", 4, func(n int) api.Val { return raw(strings.Repeat("😀", n)) }},
	{"data", 2, ofBytes},
	{"list<bool>", 5, func(n int) api.Val { return times(n, num(1)) }},
	{"list<i8>", 3, func(n int) api.Val { return times(n, num(-1)) }},
	{"list<E>", 4, func(n int) api.Val { return times(n, num(1)) }},
	{"list<u32>", 2, func(n int) api.Val { return times(n, num(7)) }},
	{"list<i64>", 5, func(n int) api.Val { return times(n, num(-7)) }},
	{"list<text>", 3, func(n int) api.Val { return times(n, raw("")) }},
	{"list<data>", 5, func(n int) api.Val { return times(n, raw("a")) }},
	{"list<list<u32>>", 3, func(n int) api.Val { return times(n, none) }},
	{"list<list<list<T>>>", 19, func(n int) api.Val { return times(n, many(many(there(num(5), raw(""))))) }},
	{"list<T>", 16, func(n int) api.Val { return times(n, there(num(0), raw("b"))) }},
	{"list<U>", 3, func(n int) api.Val { return times(n, there(none, none)) }},
	{"list<U>", 1, func(n int) api.Val { return many(there(none, there(num(1), ofBytes(n)))) }},
	{"U", 1, func(n int) api.Val { return there(there(none, there(num(1), ofBytes(n))), none) }},
}

// P15.2, P8: forms of just as many bytes as may be, and of one more; and as many as may be read, and one more.
func TestLongest(t *testing.T) {
	for _, x := range lengths {
		s := read(t, types+"struct S { x: "+x.field+"; pad: text; } root S;")
		two := len(formOf(s, there(x.of(2), raw(""))))
		for _, most := range []int{api.MaxOutput, api.MaxInput} {
			count := 2 + (most-two)/x.each
			length := two + (count-2)*x.each
			for pad := range most - length + 3 {
				wantLength(t, x.field, s, there(x.of(count), ofBytes(pad)), length+pad)
			}
			wantLength(t, x.field+", one more", s, there(x.of(count+1), raw("")), length+x.each)
			wantLength(t, x.field+", far more", s, there(x.of(3*count), raw("")), length+2*count*x.each)
		}
	}
}

// P15.2, P8: each piece may be the one that has no room any more, whatever stands behind it.
func TestNoRoom(t *testing.T) {
	s := read(t, `enum E { a, b } struct T { x: u8; t: text; } struct S { a: text; b: T; c: list<T>; d: data; e: list<list<E>>; f: i64; g: bool; h: text; i: list<u8>; } root S;`)
	v := there(raw(""), there(num(200), raw("x\ny\x01")), many(there(num(2), raw("é")), there(num(3), raw(""))), raw("\xff\x00"), many(many(num(1), num(0)), none), num(-100), num(1), raw("\"\\"), none)
	length := len(formOf(s, v))
	for room := range length + 4 {
		v.Kids[0] = ofBytes(api.MaxOutput - room)
		wantLength(t, "behind a pad", s, v, api.MaxOutput-room+length)
	}
}

// endless is a list of so many elements, all alike.
type endless struct{ count int }

func (l endless) Len() int            { return l.count }
func (l endless) Num(int) uint64      { return 1 }
func (l endless) Bytes(int) []byte    { return []byte("a") }
func (l endless) Sub(int) view.View   { return holder{l} }
func (l endless) List(int) view.Items { return l }

// holder is a struct whose fields are all such a list.
type holder struct{ list endless }

func (x holder) Num(int) uint64            { return 0 }
func (x holder) Bytes(int) []byte          { return nil }
func (x holder) Sub(int) (view.View, bool) { return x, true }
func (x holder) List(int) view.Items       { return x.list }

// P1: lists longer than anything, and structs without an end: a call ends.
func TestNoEnd(t *testing.T) {
	for _, x := range []string{"list<bool>", "list<u64>", "list<text>", "list<list<u8>>", "list<T>", "list<list<list<T>>>", "T"} {
		s := read(t, "struct T { x: u64; l: list<T>; } struct S { x: "+x+"; s: S; } root S;")
		for _, count := range []int{1 << 15, 1 << 20, math.MaxInt32, 1 << 62, math.MaxInt - 1, math.MaxInt} {
			if b, e := jsonwrite.Write(s, holder{endless{count}}, wire.New(math.MaxInt)); e != api.ErrLarge || b != nil {
				t.Errorf("%s, %d elements: error %d, %d bytes", x, count, e, len(b))
			}
			if b, e := jsonwrite.Write(s, holder{endless{count}}, wire.New(1000)); e != api.ErrBudget || b != nil {
				t.Errorf("%s, %d elements, a small budget: error %d, %d bytes", x, count, e, len(b))
			}
		}
		for _, count := range []int{0, 1, 2, -1, math.MinInt} {
			if b, e := jsonwrite.Write(s, holder{endless{count}}, wire.New(plenty)); e != api.ErrLarge || b != nil {
				t.Errorf("%s, %d elements: error %d, %d bytes", x, count, e, len(b))
			}
		}
	}
	w := jsonwrite.New(api.Schema{}, wire.New(plenty))
	w.List(of(api.U8, 0, math.MaxInt), endless{math.MaxInt})
	wantFault(t, "lists in lists", w, api.ErrLarge)
	w = jsonwrite.New(api.Schema{}, wire.New(plenty))
	w.List(of(0, 0, 1), endless{math.MaxInt})
	wantFault(t, "of no kind", w, api.ErrLarge)
}

// P15.1, P3: with each budget the answer is ErrBudget, or that with plenty; what is too long may be either.
func TestBudgets(t *testing.T) {
	s := read(t, `struct T { x: u8; t: text; } struct S { n: list<bool>; r: list<T>; s: S; l: list<list<u8>>; d: data; } root S;`)
	inner := there(times(3, num(1)), none, none, many(many(num(1)), many()), raw("xyz"))
	for what, x := range map[string]struct {
		v    api.Val
		want api.Errno
	}{
		"good":      {there(times(100, num(1)), many(there(num(1), raw("a\n\x01c")), there(num(2), raw(""))), inner, none, none), api.OK},
		"nothing":   {there(none, none, none, none, none), api.OK},
		"too large": {there(times(api.MaxOutput/5, num(1)), none, inner, many(many(num(1))), none), api.ErrLarge},
	} {
		want := ""
		if x.want == api.OK {
			want = formOf(s, x.v)
		}
		out, ends := 0, 0
		step := 1
		if x.want != api.OK {
			step = 13
		}
		for budget := -2; ends < 100; budget += step {
			m := wire.New(budget)
			b, e := jsonwrite.Write(s, view.Of(x.v), m)
			switch {
			case e == api.ErrBudget && ends == 0 && budget < 1<<17:
				out++
				if b != nil || m.Left() != 0 || !m.Out() {
					t.Errorf("%s, budget %d: %s beside ErrBudget, %d left", what, budget, b, m.Left())
				}
			case e == x.want && string(b) == want && !m.Out():
				ends++
			default:
				t.Fatalf("%s, budget %d: error %d, %s", what, budget, e, b)
			}
		}
		if out < 20 {
			t.Errorf("%s: %d budgets were too small", what, out)
		}
	}
}

// formats: how a message is read.
var formats = map[string]func(api.Schema, []byte, *wire.Meter) (view.View, api.Errno){"words": capread.Read, "tables": flatread.Read, "a row": sbe.Read, "JSON": jsonread.Read}

// wantEnough checks that what is enough for a request is enough to read a message and to write it; is the form too long?
func wantEnough(t *testing.T, format, text string, s api.Schema, b []byte) (large bool) {
	t.Helper()
	m := wire.New(1000 + 100*(len(b)+8)*(len(text)+8))
	v, e := formats[format](s, b, m)
	if e != api.OK {
		t.Errorf("%s of %d bytes: read: error %d", format, len(b), e)
		return false
	}
	want := formOf(s, view.Tree(s, s.Root, v))
	form, e := jsonwrite.Write(s, v, m)
	if len(want) > api.MaxOutput {
		if e != api.ErrLarge {
			t.Errorf("%s of %d bytes: error %d", format, len(b), e)
		}
		return true
	}
	if e != api.OK || string(form) != want {
		t.Errorf("%s of %d bytes: error %d, %.300s, not %.300s", format, len(b), e, form, want)
	}
	return false
}

// enoughText: a schema's text, as short as may be, of one field; T has as many fields as may be, E a name as long as may be.
func enoughText(field string) string {
	wide := ""
	for i := range api.MaxFields {
		wide += string(rune('a'+i)) + ":list<U>;"
	}
	return "enum E{" + strings.Repeat("e", api.MaxName) + "}struct T{" + wide + "}struct U{x:u8;}struct S{l:" + field + ";}root S;"
}

// P3, P8, R10: of a message in words, of which a few bytes say much.
func TestEnoughOfWords(t *testing.T) {
	ofList := func(code, count int) uint64 { return 1 | uint64(code)<<32 | uint64(count)<<35 }
	large, good := 0, 0
	for _, x := range []struct {
		field string
		words func(room int) []uint64 // what there is in so many words behind the root's pointer
	}{
		{"list<bool>", func(room int) []uint64 { return []uint64{ofList(1, 64*room)} }},
		{"list<E>", func(room int) []uint64 { return []uint64{ofList(3, 4*room)} }},
		{"data", func(room int) []uint64 { return []uint64{ofList(2, 8*room)} }},
		{"text", func(room int) []uint64 { return []uint64{ofList(2, 8*room)} }},
		{"list<text>", func(room int) []uint64 { return []uint64{ofList(6, room)} }},
		{"list<U>", func(room int) []uint64 { return []uint64{ofList(7, 0), uint64(room-1) << 2} }},
		{"list<T>", func(room int) []uint64 { return []uint64{ofList(7, 0), uint64(room-1) << 2} }},
	} {
		text := enoughText(x.field)
		s := read(t, text)
		for _, count := range []int{3, 4, 10, 100, 200, 1000, api.MaxInput/8 - 1} {
			words := append([]uint64{1 << 48}, x.words(count-2)...)
			words = append(words, make([]uint64, count-len(words))...)
			b := binary.LittleEndian.AppendUint32(make([]byte, 4), uint32(count))
			for _, word := range words {
				b = binary.LittleEndian.AppendUint64(b, word)
			}
			if wantEnough(t, "words", text, s, b) {
				large++
			} else {
				good++
			}
		}
	}
	if large < 10 || good < 25 {
		t.Errorf("too few: %d too large, %d others", large, good)
	}
}

// P3, P8, R10: of a message in JSON, of which a few bytes say much.
func TestEnoughOfJson(t *testing.T) {
	large, good := 0, 0
	for _, x := range []struct{ field, element string }{
		{"list<T>", "{}"}, {"list<U>", "{}"}, {"list<list<u8>>", "[]"}, {"list<u8>", "1"}, {"list<text>", `""`}, {"list<text>", `"\u0000"`}, {"list<bool>", "true"}, {"T", "{}"}, {"text", `"\n\n\n"`}, {"E", `"` + strings.Repeat("e", api.MaxName) + `"`},
	} {
		text := enoughText(x.field)
		s := read(t, text)
		for _, length := range []int{10, 100, 1000, api.MaxInput} {
			element := x.element
			if strings.HasPrefix(x.field, "list") {
				count := max(0, (length-8)/(len(element)+1))
				element = "[" + strings.TrimSuffix(strings.Repeat(element+",", count), ",") + "]"
			}
			if wantEnough(t, "JSON", text, s, []byte(`{"l":`+element+`}`)) {
				large++
			} else {
				good++
			}
			wantEnough(t, "JSON", text, s, []byte("{}"))
		}
	}
	if large < 2 || good < 30 {
		t.Errorf("too few: %d too large, %d others", large, good)
	}
}

// P3, P8, R10: of a message in a row, and in tables, likewise.
func TestEnoughOfOthers(t *testing.T) {
	short := func(l ...uint16) []byte {
		var b []byte
		for _, n := range l {
			b = binary.LittleEndian.AppendUint16(b, n)
		}
		return b
	}
	large := 0
	for _, count := range []int{0, 1, 10, 100, 200, 8000, 16000} {
		for _, field := range []string{"list<E>", "list<bool>", "data", "text"} {
			text := enoughText(field)
			s := read(t, text)
			b := short(0, 3, 1, 0)
			if strings.HasPrefix(field, "list") {
				b = append(b, short(1)...)
			}
			b = append(append(b, short(uint16(count))...), make([]byte, count)...)
			if wantEnough(t, "a row", text, s, b) {
				large++
			}
		}
		text := enoughText("list<E>")
		long := binary.LittleEndian.AppendUint32
		b := append(long(nil, 10), short(6, 8, 4)...)
		b = long(long(long(b, 6), 4), uint32(count))
		if wantEnough(t, "tables", text, read(t, text), append(b, make([]byte, count)...)) {
			large++
		}
	}
	if large < 8 {
		t.Errorf("too few: %d too large", large)
	}
}
