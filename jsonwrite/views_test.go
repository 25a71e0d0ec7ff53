package jsonwrite_test

import (
	"math"
	"reflect"
	"testing"

	"transom/api"
	"transom/jsonread"
	"transom/jsonwrite"
	"transom/view"
	"transom/wire"
)

// asked counts the questions that a value's views and items were asked, and the bytes that they answered, and refuses all questions but those that a type asks for.
type asked struct {
	t                *testing.T
	s                api.Schema
	questions, bytes int
}

// kids are a value's fields or elements, each of its type.
type kids struct {
	*asked
	types []api.Type
	vals  []api.Val
}

// structure: a struct's fields.
func (a *asked) structure(rec int, v api.Val) strict {
	x := strict{kids{asked: a, vals: v.Kids}}
	for _, f := range a.s.Structs[rec].Fields {
		x.types = append(x.types, f.Type)
	}
	return x
}

// kid: the one that is asked for, if its type is one of a kind from the first to the last, in lists or not.
func (x kids) kid(i int, first, last api.Kind, lists bool) api.Val {
	x.t.Helper()
	x.questions++
	if i < 0 || i >= len(x.vals) {
		x.t.Fatalf("place %d of %d is asked for", i, len(x.vals))
	}
	if y := x.types[i]; y.Kind < first || y.Kind > last || (y.Lists > 0) != lists {
		x.t.Fatalf("a wrong question of %v", y)
	}
	return x.vals[i]
}

func (x kids) Num(i int) uint64 { return x.kid(i, api.Bool, api.Enum, false).Num }

func (x kids) Bytes(i int) []byte {
	b := x.kid(i, api.Text, api.Data, false).Bytes
	x.bytes += len(b)
	return b
}

// List: nil, if it is empty.
func (x kids) List(i int) view.Items {
	v := x.kid(i, api.Bool, api.Struct, true)
	if len(v.Kids) == 0 {
		return nil
	}
	y := x.types[i]
	y.Lists--
	l := strictItems{kids{asked: x.asked, vals: v.Kids}}
	for range v.Kids {
		l.types = append(l.types, y)
	}
	return l
}

// strict is a struct.
type strict struct{ kids }

func (x strict) Sub(i int) (view.View, bool) {
	v := x.kid(i, api.Struct, api.Struct, false)
	if !v.Has {
		return nil, false
	}
	return x.structure(x.types[i].Ref, v), true
}

// strictItems are a list.
type strictItems struct{ kids }

func (l strictItems) Len() int {
	l.questions++
	return len(l.vals)
}

func (l strictItems) Sub(i int) view.View {
	return l.structure(l.types[i].Ref, l.kid(i, api.Struct, api.Struct, false))
}

// allSorts: a schema with a field of each sort, and a value of it.
const allSorts = `enum E { a, b } struct T { x: i8 = -1; t: text; } struct S { e: E = b; b: bool; t: text; d: data; s: T; n: list<i16>; p: list<data>; r: list<T>; l: list<list<u8>>; m: list<list<T>>; u: T; w: i64; } root S;`

func full() api.Val {
	one := there(num(-6), raw("é\n"))
	return there(num(0), num(1), raw("abc"), raw("\xff\x00"), one, many(num(1), num(-2)), many(raw("z"), raw("")),
		many(one, there(num(-1), raw(""))), many(many(num(7), num(8)), many()), many(many(), many(one)), none, num(-12345678901))
}

// P15.1, P15.2: a view, and items, are asked just for what their types are, at places that are there; what is nil is empty.
func TestViewsAreAskedByTypes(t *testing.T) {
	s := read(t, allSorts)
	for _, v := range []api.Val{full(), view.Default(s.Structs[1])} {
		a := &asked{t: t, s: s}
		b, e := jsonwrite.Write(s, a.structure(1, v), wire.New(plenty))
		if want := formOf(s, v); e != api.OK || string(b) != want {
			t.Errorf("error %d, %s, not %s", e, b, want)
		}
	}
	v := full()
	for i, field := range s.Structs[1].Fields {
		if field.Type.Lists == 0 {
			continue
		}
		a := &asked{t: t, s: s}
		w := jsonwrite.New(s, wire.New(plenty))
		w.List(field.Type, a.structure(1, v).List(i))
		wantDone(t, field.Name, w, valueForm(s, field.Type, v.Kids[i]))
	}
}

// R10: each question is paid for, and each byte that is answered, with whatever budget.
func TestQuestionsArePaid(t *testing.T) {
	s := read(t, allSorts)
	out, good := 0, 0
	for budget := range 1000 {
		a, m := &asked{t: t, s: s}, wire.New(budget)
		_, e := jsonwrite.Write(s, a.structure(1, full()), m)
		taken := budget - m.Left()
		if a.questions > taken || e == api.OK && a.questions+a.bytes > taken {
			t.Errorf("budget %d, error %d: %d questions, %d bytes, %d steps", budget, e, a.questions, a.bytes, taken)
		}
		if e == api.OK {
			good++
		} else {
			out++
		}
	}
	if out < 100 || good < 100 {
		t.Errorf("%d out, %d good", out, good)
	}
}

// R7, R10: who can't put anything asks nothing.
func TestNoQuestions(t *testing.T) {
	s := read(t, allSorts)
	over := jsonwrite.New(s, wire.New(plenty))
	over.Put(string(make([]byte, api.MaxOutput+1)))
	for what, w := range map[string]*jsonwrite.Writer{"nil": nil, "empty": new(jsonwrite.Writer), "no meter": jsonwrite.New(s, nil), "no steps": jsonwrite.New(s, wire.New(0)), "no room": over} {
		a := &asked{t: t, s: s}
		v := a.structure(1, full())
		l := v.List(7)
		a.questions = 0
		w.Record(1, v)
		w.List(of(api.Struct, 0, 1), l)
		if a.questions > 0 {
			t.Errorf("%s: %d questions", what, a.questions)
		}
	}
}

// R6: neither the schema nor the value is changed, and the answer is new memory.
func TestNothingIsChanged(t *testing.T) {
	s, v := read(t, allSorts), full()
	v.Kids[2].Bytes = append(make([]byte, 0, 50), "abc"...)
	want := formOf(s, v)
	a := &asked{t: t, s: s}
	first, _ := jsonwrite.Write(s, a.structure(1, v), wire.New(plenty))
	spare := first[:cap(first)]
	for i := range spare {
		spare[i] = '!'
	}
	second, e := jsonwrite.Write(s, a.structure(1, v), wire.New(plenty))
	if e != api.OK || string(second) != want {
		t.Errorf("error %d, %s", e, second)
	}
	if !same(v, full()) || string(v.Kids[2].Bytes[:10]) != "abc\x00\x00\x00\x00\x00\x00\x00" {
		t.Errorf("the value was changed: %v", v)
	}
	if !reflect.DeepEqual(s, read(t, allSorts)) {
		t.Error("the schema was changed")
	}
}

// R6: nor is a message that is read while it is written.
func TestMessageIsLeft(t *testing.T) {
	s := read(t, allSorts)
	form := formOf(s, full())
	b := append([]byte(form), "spare"...)
	x, e := jsonread.Read(s, b[:len(form)], wire.New(plenty))
	if e != api.OK {
		t.Fatal(e)
	}
	out, _ := jsonwrite.Write(s, x, wire.New(plenty))
	if string(out) != form {
		t.Errorf("%s, not %s", out, form)
	}
	for i := range out {
		out[i] ^= 0xff
	}
	if string(b) != form+"spare" {
		t.Error("the message was changed")
	}
}

// negative is a list that says that it has fewer than no elements.
type negative struct{ endless }

func (negative) Len() int { return math.MinInt }

// R5: a list that is nil, or of no more than no elements, is empty.
func TestEmptyItems(t *testing.T) {
	s := read(t, allSorts)
	for _, l := range []view.Items{nil, items(), endless{0}, endless{-1}, negative{}} {
		w := jsonwrite.New(s, wire.New(plenty))
		w.List(of(api.U8, 0, 2), l)
		wantDone(t, "empty", w, "[]")
	}
}

// without is a struct that has another one, and a list of such, that are no views.
type without struct{ view.View }

func (without) Sub(int) (view.View, bool) { return nil, true }
func (without) List(int) view.Items       { return noViews{endless{3}} }

// noViews are elements that are no views.
type noViews struct{ endless }

func (noViews) Sub(int) view.View { return nil }

// P1, R7: of no view nothing is promised, but that the call ends.
func TestNoViews(t *testing.T) {
	s := read(t, allSorts)
	if b, e := jsonwrite.Write(s, nil, wire.New(plenty)); e != api.ErrNil || b != nil {
		t.Errorf("no view: error %d, %s", e, b)
	}
	for _, text := range []string{"struct S { a: S; b: u8; } root S;", "struct S { a: list<S>; b: u8; } root S;"} {
		if b, e := jsonwrite.Write(read(t, text), without{view.Of(none)}, wire.New(plenty)); e != api.ErrNil || b != nil {
			t.Errorf("%s: error %d, %s", text, e, b)
		}
	}
	w := jsonwrite.New(s, nil)
	w.Record(0, nil)
	w.Put("x")
	wantFault(t, "no view", w, api.ErrNil)
	w = jsonwrite.New(s, wire.New(plenty))
	w.Put("x")
	w.Record(0, nil)
	wantFault(t, "no view", w, api.ErrNil)
}

// P1, R9: of schemas that are none, of types that aren't asked for, and of values that don't fit nothing is promised, but that the call ends.
func TestNothingPromised(t *testing.T) {
	s := read(t, allSorts)
	odd := api.Val{Num: math.MaxUint64, Bytes: []byte("\xff"), Has: true, Kids: []api.Val{{Has: true}, {Num: math.MaxUint64, Kids: []api.Val{{}, {Num: 1 << 40}}}}}
	for range 5 {
		odd = api.Val{Num: math.MaxUint64, Has: true, Bytes: []byte("a"), Kids: []api.Val{odd, odd, {}, odd}}
		jsonwrite.Write(s, view.Of(odd), wire.New(plenty))
	}
	jsonwrite.Write(api.Schema{}, view.Of(odd), wire.New(plenty))
	jsonwrite.Write(api.Schema{}, nil, nil)
	for _, root := range []int{math.MinInt, -1, 1, math.MaxInt} {
		jsonwrite.Write(api.Schema{Structs: make([]api.Record, 1), Root: root}, view.Of(odd), wire.New(plenty))
		jsonwrite.New(s, wire.New(plenty)).Record(root, view.Of(odd))
	}
	for kind := range 20 {
		for _, ref := range []int{math.MinInt, -1, 0, 1, math.MaxInt} {
			for _, lists := range []int{math.MinInt, -1, 0, 1, 2, 50, math.MaxInt} {
				x := of(api.Kind(kind), ref, lists)
				w := jsonwrite.New(s, wire.New(plenty))
				for _, n := range []uint64{0, 1, 2, 3, 1 << 40, math.MaxUint64} {
					w.Num(x, n)
				}
				w.Bytes(x, []byte("\xff\n"))
				w.List(x, items(odd, odd))
				w.List(x, endless{3})
				w.Done()
				s := api.Schema{Structs: make([]api.Record, 1)}
				for range 20 {
					s.Structs[0].Fields = append(s.Structs[0].Fields, api.Field{Type: x, Def: math.MaxUint64})
				}
				jsonwrite.Write(s, view.Of(odd), wire.New(plenty))
				jsonwrite.Write(s, holder{endless{3}}, wire.New(plenty))
			}
		}
	}
}
