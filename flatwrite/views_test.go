package flatwrite_test

import (
	"math"
	"reflect"
	"testing"

	"transom/api"
	"transom/flatread"
	"transom/flatwrite"
	"transom/view"
	"transom/wire"
)

// asked counts the questions that a value's views and items were asked, and the bytes that they answered, and refuses all questions but those that a type asks for.
type asked struct {
	t                *testing.T
	s                api.Schema
	questions, bytes int
}

// kids are a value's fields or elements, each of its type.
type kids struct {
	*asked
	types []api.Type
	vals  []api.Val
}

// structure: a struct's fields.
func (a *asked) structure(rec int, v api.Val) strict {
	x := strict{kids{asked: a, vals: v.Kids}}
	for _, f := range a.s.Structs[rec].Fields {
		x.types = append(x.types, f.Type)
	}
	return x
}

// kid: the one that is asked for, if its type is one of a kind from the first to the last, in lists or not.
func (x kids) kid(i int, first, last api.Kind, lists bool) api.Val {
	x.t.Helper()
	x.questions++
	if i < 0 || i >= len(x.vals) {
		x.t.Fatalf("place %d of %d is asked for", i, len(x.vals))
	}
	if y := x.types[i]; y.Kind < first || y.Kind > last || (y.Lists > 0) != lists {
		x.t.Fatalf("a wrong question of %v", y)
	}
	return x.vals[i]
}

func (x kids) Num(i int) uint64 { return x.kid(i, api.Bool, api.Enum, false).Num }

func (x kids) Bytes(i int) []byte {
	b := x.kid(i, api.Text, api.Data, false).Bytes
	x.bytes += len(b)
	return b
}

// List: nil, if it is empty.
func (x kids) List(i int) view.Items {
	v := x.kid(i, api.Bool, api.Struct, true)
	if len(v.Kids) == 0 {
		return nil
	}
	y := x.types[i]
	y.Lists--
	l := strictItems{kids{asked: x.asked, vals: v.Kids}}
	for range v.Kids {
		l.types = append(l.types, y)
	}
	return l
}

// strict is a struct.
type strict struct{ kids }

func (x strict) Sub(i int) (view.View, bool) {
	v := x.kid(i, api.Struct, api.Struct, false)
	if !v.Has {
		return nil, false
	}
	return x.structure(x.types[i].Ref, v), true
}

// strictItems are a list.
type strictItems struct{ kids }

func (l strictItems) Len() int {
	l.questions++
	return len(l.vals)
}

func (l strictItems) Sub(i int) view.View {
	return l.structure(l.types[i].Ref, l.kid(i, api.Struct, api.Struct, false))
}

// allSorts: a schema with a field of each sort, and a value of it.
const allSorts = `enum E { a, b } struct T { x: i8 = -1; t: text; } struct S { e: E = b; b: bool; t: text; d: data; s: T; n: list<i16>; p: list<data>; r: list<T>; l: list<list<u8>>; m: list<list<T>>; } root S;`

func full() api.Val {
	one := there(num(-6), raw("é"))
	return there(num(0), num(1), raw("abc"), raw("\xff\x00"), one, many(num(1), num(-2)), many(raw("z"), raw("")),
		many(one, there(num(-1), raw(""))), many(many(num(7), num(8)), many()), many(many(), many(one)))
}

// P11.1: a view is asked just for what its fields' types are, at places that are there; what is nil is empty.
func TestViewsAreAskedByTypes(t *testing.T) {
	s := read(t, allSorts)
	for _, v := range []api.Val{full(), view.Default(s.Structs[1])} {
		a := &asked{t: t, s: s}
		b, e := flatwrite.Write(s, a.structure(1, v), wire.New(plenty))
		if want := formOf(s, v); e != api.OK || string(b) != want {
			t.Errorf("error %d, %s", e, differ(string(b), want))
		}
	}
}

// R10: each question is paid for, with whatever budget, and all bytes but those with which it runs out.
func TestQuestionsArePaid(t *testing.T) {
	s := read(t, allSorts)
	for budget := range 200 {
		a, m := &asked{t: t, s: s}, wire.New(budget)
		_, e := flatwrite.Write(s, a.structure(1, full()), m)
		taken := budget - m.Left()
		if a.questions > taken || e == api.OK && a.questions+a.bytes > taken {
			t.Errorf("budget %d, error %d: %d questions, %d bytes, %d steps", budget, e, a.questions, a.bytes, taken)
		}
	}
	fewer, more := wire.New(plenty), wire.New(plenty)
	s = read(t, `struct S { d: data; } root S;`)
	flatwrite.Write(s, view.Of(there(ofBytes(10))), fewer)
	flatwrite.Write(s, view.Of(there(ofBytes(20))), more)
	if fewer.Left() != more.Left()+10 {
		t.Error("bytes are read without being paid for")
	}
}

// R6: neither the schema nor the view's bytes are changed, and the answer is new memory.
func TestNothingIsChanged(t *testing.T) {
	s, v := read(t, allSorts), full()
	v.Kids[2].Bytes = append(make([]byte, 0, 50), "abc"...)
	want := formOf(s, v)
	a := &asked{t: t, s: s}
	first, _ := flatwrite.Write(s, a.structure(1, v), wire.New(plenty))
	spare := first[:cap(first)]
	for i := range spare {
		spare[i] = '!'
	}
	second, e := flatwrite.Write(s, a.structure(1, v), wire.New(plenty))
	if e != api.OK || string(second) != want {
		t.Errorf("error %d, %s", e, differ(string(second), want))
	}
	if !same(v, full()) || string(v.Kids[2].Bytes[:10]) != "abc\x00\x00\x00\x00\x00\x00\x00" {
		t.Errorf("the value was changed: %v", v)
	}
	if !reflect.DeepEqual(s, read(t, allSorts)) {
		t.Error("the schema was changed")
	}
}

// R6: nor is a message that is read while it is written.
func TestMessageIsLeft(t *testing.T) {
	s, v := read(t, allSorts), full()
	form := formOf(s, v)
	b := append([]byte(form), "spare"...)
	x, e := flatread.Read(s, b[:len(form)], wire.New(plenty))
	if e != api.OK {
		t.Fatal(e)
	}
	out, _ := flatwrite.Write(s, x, wire.New(plenty))
	for i := range out {
		out[i] ^= 0xff
	}
	if string(b) != form+"spare" {
		t.Error("the message was changed")
	}
}

// hollow is a struct, or a list, of structs that are nil.
type hollow struct{ endless }

func (l hollow) Sub(int) view.View   { return nil }
func (l hollow) List(int) view.Items { return l }

type hollowStruct struct{ holder }

func (x hollowStruct) Sub(int) (view.View, bool) { return nil, true }
func (x hollowStruct) List(int) view.Items       { return hollow{endless{3}} }

// P1: of views that are nil nothing is promised but that the call ends.
func TestNoViews(t *testing.T) {
	for _, field := range []string{"u8", "T", "list<T>", "list<list<T>>"} {
		s := read(t, "struct T { x: u8; } struct S { x: "+field+"; } root S;")
		if b, e := flatwrite.Write(s, nil, wire.New(plenty)); e != api.ErrNil || b != nil {
			t.Errorf("no view: error %d, %x", e, b)
		}
		want := api.ErrNil
		if field == "u8" {
			want = api.OK
		}
		if b, e := flatwrite.Write(s, hollowStruct{}, wire.New(plenty)); e != want || (b == nil) != (want == api.ErrNil) {
			t.Errorf("%s: no views within one: error %d, %x", field, e, b)
		}
	}
	flatwrite.Write(api.Schema{}, nil, nil)
}

// P1, R9: of schemas that are none, and of values that don't fit, nothing is promised but that the call ends.
func TestNothingPromised(t *testing.T) {
	s := read(t, allSorts)
	odd := api.Val{Num: math.MaxUint64, Bytes: []byte("\xff"), Has: true, Kids: []api.Val{{Has: true}, {Num: math.MaxUint64, Kids: []api.Val{{}, {Num: 1 << 40}}}}}
	for range 5 {
		odd = api.Val{Num: math.MaxUint64, Has: true, Bytes: []byte("a"), Kids: []api.Val{odd, odd, {}, odd}}
		flatwrite.Write(s, view.Of(odd), wire.New(plenty))
	}
	flatwrite.Write(api.Schema{}, view.Of(odd), wire.New(plenty))
	for _, root := range []int{math.MinInt, -1, 1, math.MaxInt} {
		flatwrite.Write(api.Schema{Structs: make([]api.Record, 1), Root: root}, view.Of(odd), wire.New(plenty))
	}
	for kind := range 20 {
		for _, ref := range []int{math.MinInt, -1, 0, 1, math.MaxInt} {
			for _, lists := range []int{math.MinInt, -1, 0, 1, 2, 50, math.MaxInt} {
				s := api.Schema{Structs: make([]api.Record, 1)}
				for range 20 {
					f := api.Field{Type: api.Type{Kind: api.Kind(kind), Ref: ref, Lists: lists}, Def: math.MaxUint64}
					s.Structs[0].Fields = append(s.Structs[0].Fields, f)
				}
				flatwrite.Write(s, view.Of(odd), wire.New(plenty))
				flatwrite.Write(s, holder{endless{3}}, wire.New(plenty))
			}
		}
	}
}
