package jsonwrite_test

import (
	"math"
	"reflect"
	"strings"
	"testing"

	"transom/api"
	"transom/jsonwrite"
	"transom/view"
	"transom/wire"
)

// wantDone checks all that was put.
func wantDone(t *testing.T, what string, w *jsonwrite.Writer, want string) {
	t.Helper()
	if b, e := w.Done(); e != api.OK || string(b) != want {
		t.Errorf("%s: error %d, %.300s, not %.300s", what, e, b, want)
	}
}

// wantFault checks that there is an error, and nothing beside it.
func wantFault(t *testing.T, what string, w *jsonwrite.Writer, want api.Errno) {
	t.Helper()
	if b, e := w.Done(); e != want || b != nil {
		t.Errorf("%s: error %d, not %d, %.300s", what, e, want, b)
	}
}

// writerText: a schema of a field of each sort.
const writerText = `enum E { a, b } struct T { y: u8 = 5; b: text; } struct S { t: T; e: E; } root T;`

// put is a call of a writer, and what it puts.
type put struct {
	call func(w *jsonwrite.Writer)
	want string
}

// of: a kind's type, in so many lists.
func of(k api.Kind, ref, lists int) api.Type { return api.Type{Kind: k, Ref: ref, Lists: lists} }

// items: of a list.
func items(kids ...api.Val) view.Items { return view.Of(there(many(kids...))).List(0) }

// puts: of each call some.
var puts = map[string]put{
	"Put":         {func(w *jsonwrite.Writer) { w.Put("a\"\\\x00\xff/é") }, "a\"\\\x00\xff/é"},
	"Put nothing": {func(w *jsonwrite.Writer) { w.Put("") }, ""},
	"Text":        {func(w *jsonwrite.Writer) { w.Text([]byte("a\"\\\x00/é")) }, `"a\"\\\u0000/é"`},
	"Text nil":    {func(w *jsonwrite.Writer) { w.Text(nil) }, `""`},
	"Text no end": {func(w *jsonwrite.Writer) { w.Text([]byte("\xff\n\xc3")) }, "\"\xff\\n\xc3\""},
	"bool":        {func(w *jsonwrite.Writer) { w.Num(of(api.Bool, 0, 0), 1) }, "true"},
	"i8":          {func(w *jsonwrite.Writer) { w.Num(of(api.I8, 0, 0), math.MaxUint64) }, "-1"},
	"u32":         {func(w *jsonwrite.Writer) { w.Num(of(api.U32, 0, 0), math.MaxUint32) }, "4294967295"},
	"i64":         {func(w *jsonwrite.Writer) { w.Num(of(api.I64, 0, 0), math.MaxUint64) }, `"-1"`},
	"u64":         {func(w *jsonwrite.Writer) { w.Num(of(api.U64, 0, 0), math.MaxUint64) }, `"18446744073709551615"`},
	"enum":        {func(w *jsonwrite.Writer) { w.Num(of(api.Enum, 0, 0), 1) }, `"b"`},
	"text":        {func(w *jsonwrite.Writer) { w.Bytes(of(api.Text, 0, 0), []byte("\x1f")) }, `"\u001f"`},
	"data":        {func(w *jsonwrite.Writer) { w.Bytes(of(api.Data, 0, 0), []byte("\x1f")) }, `"1f"`},
	"no data":     {func(w *jsonwrite.Writer) { w.Bytes(of(api.Data, 0, 0), nil) }, `""`},
	"Record": {func(w *jsonwrite.Writer) { w.Record(1, view.Of(there(there(num(7), raw("x")), num(1)))) },
		`{"e":"b","t":{"b":"x","y":7}}`},
	"Record root": {func(w *jsonwrite.Writer) { w.Record(0, view.Of(there(num(5), raw("")))) }, `{"b":"","y":5}`},
	"List":        {func(w *jsonwrite.Writer) { w.List(of(api.U8, 0, 1), items(num(1), num(2))) }, "[1,2]"},
	"no List":     {func(w *jsonwrite.Writer) { w.List(of(api.Struct, 0, 3), items()) }, "[]"},
	"structs":     {func(w *jsonwrite.Writer) { w.List(of(api.Struct, 1, 1), items(there(none, num(0)))) }, `[{"e":"a"}]`},
	"lists":       {func(w *jsonwrite.Writer) { w.List(of(api.Enum, 0, 2), items(none, many(num(0)))) }, `[[],["a"]]`},
}

// P15.1: each call alone, and behind each other one, of a new writer; and Done as often as one likes.
func TestCalls(t *testing.T) {
	s := read(t, writerText)
	wantDone(t, "nothing", jsonwrite.New(s, wire.New(0)), "")
	for what, x := range puts {
		w := jsonwrite.New(s, wire.New(plenty))
		x.call(w)
		wantDone(t, what, w, x.want)
		wantDone(t, what+", again", w, x.want)
		for behind, y := range puts {
			w := jsonwrite.New(s, wire.New(plenty))
			x.call(w)
			y.call(w)
			wantDone(t, what+", "+behind, w, x.want+y.want)
			w.Put(";")
			x.call(w)
			wantDone(t, what+", "+behind+", "+what, w, x.want+y.want+";"+x.want)
		}
	}
}

// P15.1: a list of values that are no message, as a path's answer is.
func TestPutBetween(t *testing.T) {
	w := jsonwrite.New(read(t, writerText), wire.New(plenty))
	put := w.Put
	put("[")
	w.Num(of(api.U8, 0, 0), 7)
	put(",")
	w.Bytes(of(api.Text, 0, 0), []byte("a"))
	put(",")
	w.Record(0, view.Of(there(num(1), raw(""))))
	put("]")
	wantDone(t, "a list", w, `[7,"a",{"b":"","y":1}]`)
}

// P15.1, R6: writers that share a meter, or a schema, share nothing else.
func TestTwoWriters(t *testing.T) {
	s, m := read(t, writerText), wire.New(plenty)
	a, b := jsonwrite.New(s, m), jsonwrite.New(s, m)
	a.Put("a")
	b.Put("b")
	a.Put("c")
	wantDone(t, "one", a, "ac")
	wantDone(t, "the other", b, "b")
	c := jsonwrite.New(s, wire.New(plenty))
	c.Put(strings.Repeat("c", api.MaxOutput+1))
	wantFault(t, "too large", c, api.ErrLarge)
	wantDone(t, "one", a, "ac")
}

// R7: a nil writer has nothing, and takes nothing.
func TestNilWriter(t *testing.T) {
	var w *jsonwrite.Writer
	wantFault(t, "nil", w, api.ErrNil)
	for what, x := range puts {
		x.call(w)
		wantFault(t, what, w, api.ErrNil)
	}
	w.Record(0, nil)
	w.List(of(api.U8, 0, 1), nil)
	wantFault(t, "nil", w, api.ErrNil)
}

// R7: a writer with nothing in it has no meter and no schema, but doesn't panic.
func TestZeroWriter(t *testing.T) {
	for what, x := range puts {
		w := new(jsonwrite.Writer)
		x.call(w)
		if x.want == "" {
			wantDone(t, what, w, "")
		} else {
			wantFault(t, what, w, api.ErrBudget)
		}
	}
}

// R7, P15.1: a nil meter has nothing, like one of no steps; nor has one that ran out, whatever is put.
func TestNoMeter(t *testing.T) {
	s := read(t, writerText)
	for _, m := range []*wire.Meter{nil, wire.New(0), wire.New(-1), wire.New(math.MinInt)} {
		wantDone(t, "nothing", jsonwrite.New(s, m), "")
	}
	for what, x := range puts {
		for _, m := range []*wire.Meter{nil, wire.New(0), wire.New(-1)} {
			w := jsonwrite.New(s, m)
			x.call(w)
			if x.want == "" {
				wantDone(t, what, w, "")
			} else {
				wantFault(t, what, w, api.ErrBudget)
			}
			w.Put("x")
			w.Put("")
			wantFault(t, what+" and more", w, api.ErrBudget)
		}
		out := wire.New(5)
		out.Take(6)
		w := jsonwrite.New(s, out)
		wantFault(t, "out", w, api.ErrBudget)
		x.call(w)
		wantFault(t, what, w, api.ErrBudget)
	}
	for _, m := range []*wire.Meter{nil, wire.New(0)} {
		if b, e := jsonwrite.Write(s, view.Of(there(num(1), raw(""))), m); e != api.ErrBudget || b != nil {
			t.Errorf("Write: %s, error %d", b, e)
		}
	}
}

// P15.1: it counts that the meter ran out, whoever took from it last; what was put ahead of that is no answer.
func TestOtherTakers(t *testing.T) {
	m := wire.New(1000)
	w := jsonwrite.New(read(t, writerText), m)
	w.Put("a")
	m.Take(m.Left())
	wantDone(t, "just used up", w, "a")
	w.Put("")
	wantDone(t, "nothing more", w, "a")
	m.Take(1)
	wantFault(t, "out", w, api.ErrBudget)
	w.Put("b")
	wantFault(t, "out", w, api.ErrBudget)
}

// P15.1: of each call, and of two: with each budget the answer is that with plenty, or ErrBudget.
func TestBudgetsOfCalls(t *testing.T) {
	s := read(t, writerText)
	for what, x := range puts {
		done := false
		for budget := range 500 {
			m := wire.New(budget)
			w := jsonwrite.New(s, m)
			x.call(w)
			x.call(w)
			b, e := w.Done()
			switch {
			case e == api.OK && string(b) == x.want+x.want:
				done = true
			case e != api.ErrBudget || b != nil || done:
				t.Errorf("%s, budget %d: error %d, %s", what, budget, e, b)
			}
			if taken := budget - m.Left(); e == api.OK && taken < 2*len(x.want) {
				t.Errorf("%s: %d steps", what, taken)
			}
		}
		if !done {
			t.Errorf("%s: 500 aren't enough", what)
		}
	}
}

// P15.1: as many bytes as may be, and one more, in however many calls; then nothing is put any more.
func TestLarge(t *testing.T) {
	s := read(t, writerText)
	for _, piece := range []int{1, 2, 7, 4096, api.MaxOutput - 1, api.MaxOutput} {
		w := jsonwrite.New(s, wire.New(plenty))
		left := api.MaxOutput
		for ; left > 0; left -= piece {
			w.Put(strings.Repeat("x", min(piece, left)))
		}
		wantDone(t, "just so long", w, strings.Repeat("x", api.MaxOutput))
		w.Put("")
		wantDone(t, "just so long", w, strings.Repeat("x", api.MaxOutput))
		w.Put("x")
		wantFault(t, "longer", w, api.ErrLarge)
		w.Put("")
		wantFault(t, "longer", w, api.ErrLarge)
	}
	for what, x := range puts {
		for room := range len(x.want) + 1 {
			w := jsonwrite.New(s, wire.New(plenty))
			pad := strings.Repeat("x", api.MaxOutput-room)
			w.Put(pad)
			x.call(w)
			if room == len(x.want) {
				wantDone(t, what, w, pad+x.want)
			} else {
				wantFault(t, what, w, api.ErrLarge)
				w.Put("") // there would be room for less
				x.call(w)
				wantFault(t, what, w, api.ErrLarge)
			}
		}
		w := jsonwrite.New(s, wire.New(plenty))
		w.Put(strings.Repeat("x", api.MaxOutput+1))
		x.call(w)
		wantFault(t, what, w, api.ErrLarge)
	}
}

// P15.1: pieces that are far too long themselves.
func TestFarTooLongCalls(t *testing.T) {
	s := read(t, writerText)
	for _, count := range []int{api.MaxOutput - 1, api.MaxOutput, 1 << 20} {
		for what, x := range map[string]func(w *jsonwrite.Writer){
			"Put":     func(w *jsonwrite.Writer) { w.Put(strings.Repeat("xx", count)) },
			"Text":    func(w *jsonwrite.Writer) { w.Text([]byte(strings.Repeat("x", count))) },
			"escaped": func(w *jsonwrite.Writer) { w.Text([]byte(strings.Repeat("\n", count))) },
			"data":    func(w *jsonwrite.Writer) { w.Bytes(of(api.Data, 0, 0), make([]byte, count)) },
			"List":    func(w *jsonwrite.Writer) { w.List(of(api.U8, 0, 1), endless{count}) },
		} {
			w := jsonwrite.New(s, wire.New(plenty))
			x(w)
			wantFault(t, what, w, api.ErrLarge)
			w = jsonwrite.New(s, wire.New(100))
			x(w)
			if b, e := w.Done(); b != nil || e != api.ErrBudget && e != api.ErrLarge {
				t.Errorf("%s: error %d", what, e)
			}
		}
	}
}

// R6: the schema may be changed behind New: a writer goes by what it was.
func TestSchemaIsNotKept(t *testing.T) {
	s := read(t, writerText)
	w := jsonwrite.New(s, wire.New(plenty))
	for _, r := range s.Structs {
		for i := range r.Fields {
			r.Fields[i] = api.Field{Name: "other", Type: api.Type{Kind: api.U64, Lists: 3}, Def: 77}
		}
	}
	for i := range s.Structs {
		s.Structs[i] = api.Record{}
	}
	for i := range s.Enums[0].Names {
		s.Enums[0].Names[i] = "other"
	}
	s.Enums[0] = api.Choice{}
	w.Record(1, view.Of(there(there(num(7), raw("x")), num(1))))
	wantDone(t, "as it was", w, `{"e":"b","t":{"b":"x","y":7}}`)
}

// R6: what is handed in is left as it is, spare room included, and each answer is new memory.
func TestAnswersAreNew(t *testing.T) {
	s := read(t, writerText)
	room := []byte("a\nspare")
	w := jsonwrite.New(s, wire.New(plenty))
	w.Text(room[:2])
	w.Bytes(of(api.Text, 0, 0), room[:2])
	w.Bytes(of(api.Data, 0, 0), room[:2])
	first, _ := w.Done()
	room[0] = 'b'
	spare := first[:cap(first)]
	for i := range spare {
		spare[i] = '!'
	}
	wantDone(t, "again", w, `"a\n""a\n""610a"`)
	if w.Put("x"); string(first[:3]) != "!!!" || string(room) != "b\nspare" || !reflect.DeepEqual(s, read(t, writerText)) {
		t.Errorf("%s, %s", first, room)
	}
	wantDone(t, "more", w, `"a\n""a\n""610a"x`)
}
