package sbe_test

import (
	"bytes"
	"math"
	"reflect"
	"testing"

	"transom/api"
	"transom/sbe"
	"transom/view"
	"transom/wire"
)

// allSorts: a schema with a field of each sort, and a value of it.
const allSorts = `enum E { a, b } struct T { x: i8 = -1; t: text; } struct S { e: E = b; b: bool; t: text; d: data; s: T; n: list<i16>; p: list<data>; r: list<T>; l: list<list<u8>>; m: list<list<T>>; u: T; w: i64; } root S;`

func full() api.Val {
	one := there(num(-6), raw("é"))
	return there(num(0), num(1), raw("abc"), raw("\xff\x00"), one, many(num(1), num(-2)), many(raw("z"), raw("")),
		many(one, there(num(-1), raw(""))), many(many(num(7), num(8)), many()), many(many(), many(one)), none, num(-12345678901))
}

// fullView: the value in a message, as a view.
func fullView(t *testing.T) (api.Schema, []byte, view.View) {
	t.Helper()
	s := read(t, allSorts)
	b := []byte(formOf(s, full()))
	v, e := sbe.Read(s, b, wire.New(plenty))
	if e != api.OK {
		t.Fatal(e)
	}
	return s, b, v
}

// P12.1, P4: all that a view and its items tell.
func TestViewTells(t *testing.T) {
	s, b, v := fullView(t)
	wantForm(t, "all sorts", s, full(), string(b))
	for i := range b {
		wantNone(t, "all sorts, cut short", s, string(b[:i]))
	}
	negative := func(n int) uint64 { return uint64(n) }
	if v.Num(0) != 0 || v.Num(1) != 1 || v.Num(11) != negative(-12345678901) || string(v.Bytes(2)) != "abc" || string(v.Bytes(3)) != "\xff\x00" {
		t.Error("numbers and bytes")
	}
	sub, ok := v.Sub(4)
	if !ok || sub.Num(0) != negative(-6) || string(sub.Bytes(1)) != "é" {
		t.Errorf("a struct: %v", sub)
	}
	if sub, ok := v.Sub(10); ok || sub != nil {
		t.Errorf("a struct that isn't there: %v", sub)
	}
	n, p, r, l, m := v.List(5), v.List(6), v.List(7), v.List(8), v.List(9)
	if n.Len() != 2 || n.Num(0) != 1 || n.Num(1) != negative(-2) || p.Len() != 2 || string(p.Bytes(0)) != "z" || len(p.Bytes(1)) != 0 {
		t.Errorf("lists: %v %v", n, p)
	}
	if r.Len() != 2 || r.Sub(0).Num(0) != negative(-6) || string(r.Sub(0).Bytes(1)) != "é" || r.Sub(1).Num(0) != negative(-1) || len(r.Sub(1).Bytes(1)) != 0 {
		t.Errorf("structs: %v", r)
	}
	if l.Len() != 2 || l.List(0).Len() != 2 || l.List(0).Num(1) != 8 || l.List(1).Len() != 0 || m.Len() != 2 || m.List(0).Len() != 0 || m.List(1).Sub(0).Num(0) != negative(-6) {
		t.Errorf("lists of lists: %v %v", l, m)
	}
	empty, e := sbe.Read(s, []byte(formOf(s, view.Default(s.Structs[1]))), wire.New(plenty))
	if e != api.OK {
		t.Fatal(e)
	}
	for f := 5; f < 10; f++ {
		if l := empty.List(f); l == nil || l.Len() != 0 {
			t.Errorf("an empty list: %v", l)
		}
	}
}

// P12.1: elements and fields are told in any order, and again.
func TestAnyOrder(t *testing.T) {
	s := read(t, `struct U { t: text; n: u8; } struct T { u: U; l: list<text>; n: u16; } struct S { r: list<T>; } root S;`)
	const count = 50
	var v api.Val
	for i := range count {
		var texts api.Val
		for k := range i % 7 {
			texts.Kids = append(texts.Kids, raw(zeros(k+i)))
		}
		v.Kids = append(v.Kids, there(there(raw(zeros(i)), num(i)), texts, num(1000+i)))
	}
	x, e := sbe.Read(s, []byte(formOf(s, there(v))), wire.New(plenty))
	if e != api.OK {
		t.Fatal(e)
	}
	l := x.List(0)
	for k := range 3 * count {
		i := (k * 37) % count
		y := l.Sub(i)
		texts := y.List(1)
		for j := texts.Len() - 1; j >= 0; j-- {
			if len(texts.Bytes(j)) != i+j {
				t.Errorf("element %d, text %d: %d bytes", i, j, len(texts.Bytes(j)))
			}
		}
		u, ok := y.Sub(0)
		if !ok || u.Num(1) != uint64(i) || len(u.Bytes(0)) != i || y.Num(2) != uint64(1000+i) || texts.Len() != i%7 {
			t.Errorf("element %d", i)
		}
	}
}

// R6, R8: a view keeps the bytes alone, answers new memory, and answers the same again.
func TestNothingElseIsKept(t *testing.T) {
	s := read(t, allSorts)
	form := formOf(s, full())
	room := append([]byte(form), "spare"...)
	v, _ := sbe.Read(s, room[:len(form)], wire.New(plenty))
	for _, r := range s.Structs {
		for i := range r.Fields {
			r.Fields[i] = api.Field{Type: api.Type{Kind: api.U64, Lists: 3}, Def: 77}
		}
	}
	for i := range s.Structs {
		s.Structs[i] = api.Record{}
	}
	s.Enums[0].Names = nil
	asked := read(t, allSorts)
	for range 2 {
		if got := view.Tree(asked, asked.Root, v); !same(got, full()) {
			t.Errorf("%v", got)
		}
		sub, _ := v.Sub(4)
		for _, told := range [][]byte{v.Bytes(2), v.Bytes(3), sub.Bytes(1), v.List(6).Bytes(0), v.List(7).Sub(0).Bytes(1)} {
			all := told[:cap(told)]
			for i := range all {
				all[i] = '!'
			}
		}
	}
	if string(room) != form+"spare" {
		t.Error("what was handed in was changed")
	}
}

// R6: what stands behind a message, in its memory, isn't looked at.
func TestSpareRoom(t *testing.T) {
	s, b, _ := fullView(t)
	for i := range b {
		if v, e := sbe.Read(s, b[:i], wire.New(plenty)); e != api.ErrMalformed || v != nil {
			t.Errorf("cut at %d, the rest behind: error %d", i, e)
		}
	}
}

// R10: what is read out of a view takes no more of the meter.
func TestViewIsPaid(t *testing.T) {
	s := read(t, allSorts)
	m := wire.New(plenty)
	v, _ := sbe.Read(s, []byte(formOf(s, full())), m)
	left := m.Left()
	m.Take(left)
	if m.Take(1); !m.Out() {
		t.Fatal("not out")
	}
	if got := view.Tree(s, s.Root, v); !same(got, full()) {
		t.Errorf("%v", got)
	}
	if left >= plenty {
		t.Error("it takes nothing")
	}
}

// R10: the meter has paid for each byte, element and field that a view may tell.
func TestAllIsPaid(t *testing.T) {
	for _, x := range lengths {
		s := lengthSchema(t, x.field)
		for _, count := range []int{10, 1000} {
			m := wire.New(plenty)
			if _, e := sbe.Read(s, []byte(formOf(s, there(x.of(count)))), m); e != api.OK || plenty-m.Left() < count {
				t.Errorf("%s: error %d, %d steps", x.field, e, plenty-m.Left())
			}
		}
	}
	s := read(t, "struct S { f0: u8; f1: u8; f2: u8; f3: u8; f4: u8; f5: u8; f6: u8; f7: u8; f8: u8; f9: u8; f10: u8; f11: u8; f12: u8; f13: u8; f14: u8; f15: u8; } root S;")
	m := wire.New(plenty)
	if _, e := sbe.Read(s, []byte(head(16, 0)+zeros(16)), m); e != api.OK || plenty-m.Left() < 16 {
		t.Errorf("fields: error %d, %d steps", e, plenty-m.Left())
	}
}

// asked counts the questions that a value's views and items were asked, and the bytes that they answered, and refuses all questions but those that a type asks for.
type asked struct {
	t                *testing.T
	s                api.Schema
	questions, bytes int
}

// kids are a value's fields or elements, each of its type.
type kids struct {
	*asked
	types []api.Type
	vals  []api.Val
}

// structure: a struct's fields.
func (a *asked) structure(rec int, v api.Val) strict {
	x := strict{kids{asked: a, vals: v.Kids}}
	for _, f := range a.s.Structs[rec].Fields {
		x.types = append(x.types, f.Type)
	}
	return x
}

// kid: the one that is asked for, if its type is one of a kind from the first to the last, in lists or not.
func (x kids) kid(i int, first, last api.Kind, lists bool) api.Val {
	x.t.Helper()
	x.questions++
	if i < 0 || i >= len(x.vals) {
		x.t.Fatalf("place %d of %d is asked for", i, len(x.vals))
	}
	if y := x.types[i]; y.Kind < first || y.Kind > last || (y.Lists > 0) != lists {
		x.t.Fatalf("a wrong question of %v", y)
	}
	return x.vals[i]
}

func (x kids) Num(i int) uint64 { return x.kid(i, api.Bool, api.Enum, false).Num }

func (x kids) Bytes(i int) []byte {
	b := x.kid(i, api.Text, api.Data, false).Bytes
	x.bytes += len(b)
	return b
}

// List: nil, if it is empty.
func (x kids) List(i int) view.Items {
	v := x.kid(i, api.Bool, api.Struct, true)
	if len(v.Kids) == 0 {
		return nil
	}
	y := x.types[i]
	y.Lists--
	l := strictItems{kids{asked: x.asked, vals: v.Kids}}
	for range v.Kids {
		l.types = append(l.types, y)
	}
	return l
}

// strict is a struct.
type strict struct{ kids }

func (x strict) Sub(i int) (view.View, bool) {
	v := x.kid(i, api.Struct, api.Struct, false)
	if !v.Has {
		return nil, false
	}
	return x.structure(x.types[i].Ref, v), true
}

// strictItems are a list.
type strictItems struct{ kids }

func (l strictItems) Len() int {
	l.questions++
	return len(l.vals)
}

func (l strictItems) Sub(i int) view.View {
	return l.structure(l.types[i].Ref, l.kid(i, api.Struct, api.Struct, false))
}

// P12.2: a view is asked just for what its fields' types are, at places that are there; what is nil is empty.
func TestViewsAreAskedByTypes(t *testing.T) {
	s := read(t, allSorts)
	for _, v := range []api.Val{full(), view.Default(s.Structs[1])} {
		a := &asked{t: t, s: s}
		b, e := sbe.Write(s, a.structure(1, v), wire.New(plenty))
		if want := formOf(s, v); e != api.OK || string(b) != want {
			t.Errorf("error %d, %s", e, differ(string(b), want))
		}
	}
}

// R10: each question is paid for, with whatever budget, and all bytes but those with which it runs out.
func TestQuestionsArePaid(t *testing.T) {
	s := read(t, allSorts)
	for budget := range 200 {
		a, m := &asked{t: t, s: s}, wire.New(budget)
		_, e := sbe.Write(s, a.structure(1, full()), m)
		taken := budget - m.Left()
		if a.questions > taken || e == api.OK && a.questions+a.bytes > taken {
			t.Errorf("budget %d, error %d: %d questions, %d bytes, %d steps", budget, e, a.questions, a.bytes, taken)
		}
	}
}

// R6: neither the schema nor the view's bytes are changed, and the answer is new memory.
func TestNothingIsChanged(t *testing.T) {
	s, v := read(t, allSorts), full()
	v.Kids[2].Bytes = append(make([]byte, 0, 50), "abc"...)
	want := formOf(s, v)
	a := &asked{t: t, s: s}
	first, _ := sbe.Write(s, a.structure(1, v), wire.New(plenty))
	spare := first[:cap(first)]
	for i := range spare {
		spare[i] = '!'
	}
	second, e := sbe.Write(s, a.structure(1, v), wire.New(plenty))
	if e != api.OK || string(second) != want {
		t.Errorf("error %d, %s", e, differ(string(second), want))
	}
	if !same(v, full()) || string(v.Kids[2].Bytes[:10]) != "abc\x00\x00\x00\x00\x00\x00\x00" {
		t.Errorf("the value was changed: %v", v)
	}
	if !reflect.DeepEqual(s, read(t, allSorts)) {
		t.Error("the schema was changed")
	}
}

// R6: nor is a message that is read while it is written.
func TestMessageIsLeft(t *testing.T) {
	s, b, x := fullView(t)
	was := bytes.Clone(b)
	out, _ := sbe.Write(s, x, wire.New(plenty))
	for i := range out {
		out[i] ^= 0xff
	}
	if !bytes.Equal(b, was) {
		t.Error("the message was changed")
	}
}

// P1: questions of which nothing is promised have some answer.
func TestOtherQuestions(t *testing.T) {
	s, _, v := fullView(t)
	empty, _ := sbe.Read(s, []byte(formOf(s, view.Default(s.Structs[1]))), wire.New(plenty))
	sub, _ := v.Sub(4)
	places := []int{math.MinInt, -1, 0, 1, 2, 3, 4, 5, 6, 7, 8, 9, 10, 11, 12, 1 << 40, math.MaxInt}
	for _, x := range []view.View{v, empty, sub, v.List(7).Sub(0), v.List(7).Sub(2), v.List(5).Sub(0), empty.List(7).Sub(0), v.List(0).Sub(-1)} {
		for _, i := range places {
			x.Num(i)
			x.Bytes(i)
			if y, ok := x.Sub(i); ok {
				y.Num(0)
			}
			l := x.List(i)
			for _, k := range append(places, l.Len()) {
				l.Num(k)
				l.Bytes(k)
				l.List(k).Len()
				l.List(k).List(0).Sub(0).List(1)
				l.Sub(k).Num(0)
				l.Sub(k).Bytes(1)
				l.Sub(k).List(0).Sub(0).Sub(0)
			}
		}
	}
}

// hollow is a struct, or a list, of structs that are nil.
type hollow struct{ endless }

func (l hollow) Sub(int) view.View   { return nil }
func (l hollow) List(int) view.Items { return l }

type hollowStruct struct{ holder }

func (x hollowStruct) Sub(int) (view.View, bool) { return nil, true }
func (x hollowStruct) List(int) view.Items       { return hollow{endless{3}} }

// P1: of views that are nil nothing is promised but that the call ends.
func TestNoViews(t *testing.T) {
	for _, field := range []string{"u8", "T", "list<T>", "list<list<T>>"} {
		s := read(t, "struct T { x: u8; } struct S { x: "+field+"; } root S;")
		if b, e := sbe.Write(s, nil, wire.New(plenty)); e != api.ErrNil || b != nil {
			t.Errorf("no view: error %d, %x", e, b)
		}
		want := api.ErrNil
		if field == "u8" {
			want = api.OK
		}
		if b, e := sbe.Write(s, hollowStruct{}, wire.New(plenty)); e != want || (b == nil) != (want == api.ErrNil) {
			t.Errorf("%s: no views within one: error %d, %x", field, e, b)
		}
	}
	sbe.Write(api.Schema{}, nil, nil)
}

// P1, R9: of schemas that are none, and of values that don't fit, nothing is promised but that the calls end.
func TestNothingPromised(t *testing.T) {
	s := read(t, allSorts)
	odd := api.Val{Num: math.MaxUint64, Bytes: []byte("\xff"), Has: true, Kids: []api.Val{{Has: true}, {Num: math.MaxUint64, Kids: []api.Val{{}, {Num: 1 << 40}}}}}
	for range 5 {
		odd = api.Val{Num: math.MaxUint64, Has: true, Bytes: []byte("a"), Kids: []api.Val{odd, odd, {}, odd}}
		sbe.Write(s, view.Of(odd), wire.New(plenty))
	}
	for _, root := range []int{math.MinInt, -1, 0, 1, math.MaxInt} {
		for structs := range 2 {
			s := api.Schema{Structs: make([]api.Record, structs), Root: root}
			sbe.Write(s, view.Of(odd), wire.New(plenty))
			if x, e := sbe.Read(s, []byte(head(0, root)), wire.New(plenty)); e == api.OK {
				x.Num(0)
			}
		}
	}
	for kind := range 20 {
		for _, ref := range []int{math.MinInt, -1, 0, 1, math.MaxInt} {
			for _, lists := range []int{math.MinInt, -1, 0, 1, 2, 50, math.MaxInt} {
				s := api.Schema{Structs: make([]api.Record, 2), Root: 1}
				for range 20 {
					f := api.Field{Type: api.Type{Kind: api.Kind(kind), Ref: ref, Lists: lists}, Def: math.MaxUint64}
					s.Structs[1].Fields = append(s.Structs[1].Fields, f)
				}
				sbe.Write(s, view.Of(odd), wire.New(plenty))
				sbe.Write(s, holder{endless{3}}, wire.New(plenty))
				for _, form := range []string{zeros(80), zeros(40), short(0, 1) + zeros(76), short(0, 1, 0, 1, 0, 1) + zeros(68)} {
					for size := range 9 {
						if x, e := sbe.Read(s, []byte(head(20*size, 1)+form), wire.New(plenty)); e == api.OK {
							x.Num(0)
							x.Bytes(0)
							x.Sub(0)
							x.List(0).Sub(0).List(0)
						}
					}
				}
			}
		}
	}
}
