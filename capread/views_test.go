package capread_test

import (
	"bytes"
	"math"
	"testing"

	"transom/api"
	"transom/capread"
	"transom/view"
	"transom/wire"
)

// mixed: a schema with a field of each sort, and a message of it, with what it says.
const mixed = `enum E { a, b } struct T { x: i8 = -1; t: text; } struct S { e: E = b; t: text; d: data; s: T; n: list<i16>; p: list<data>; r: list<T>; l: list<list<u8>>; } root S;`

func mixedMessage() ([]byte, api.Val) {
	b := message(
		ofStruct(0, 1, 7),                                                                                                         // word 0
		1,                                                                                                                         // 1: e
		ofList(6, 2, 4), ofList(6, 2, 2), ofStruct(6, 1, 1), ofList(8, 3, 2), ofList(8, 6, 2), ofList(10, 7, 4), ofList(14, 6, 1), // 2: pointers
		chars("abc"),                   // 9: t
		chars("\xff\x00"),              // 10: d
		5, ofList(0, 2, 3), chars("é"), // 11: s
		0xfffe_0001,             // 14: n
		ofList(1, 2, 1), 0, 'z', // 15: p
		tag(2, 1, 1), 0xff, 0, 0, 0, // 18: r
		ofList(0, 2, 3), 0x090807, // 23: l
	)
	return b, there(num(0), raw("abc"), raw("\xff\x00"), there(num(-6), raw("é")), many(num(1), num(-2)), many(raw("z"), raw("")),
		many(there(num(0), raw("")), there(num(-1), raw(""))), many(many(num(7), num(8), num(9))))
}

// P8.1: all that a view and its items tell.
func TestViewTells(t *testing.T) {
	s := read(t, mixed)
	b, want := mixedMessage()
	wantValue(t, "all sorts", s, b, want)
	v, _ := capread.Read(s, b, wire.New(plenty))
	sub, ok := v.Sub(3)
	if !ok || sub.Num(0) != math.MaxUint64-5 || string(sub.Bytes(1)) != "é" {
		t.Errorf("a struct: %v", sub)
	}
	n, p, r, l := v.List(4), v.List(5), v.List(6), v.List(7)
	if n.Len() != 2 || n.Num(1) != math.MaxUint64-1 || p.Len() != 2 || string(p.Bytes(0)) != "z" || len(p.Bytes(1)) != 0 {
		t.Errorf("lists: %v %v", n, p)
	}
	if r.Len() != 2 || r.Sub(0).Num(0) != 0 || r.Sub(1).Num(0) != math.MaxUint64 || l.Len() != 1 || l.List(0).Len() != 3 || l.List(0).Num(2) != 9 {
		t.Errorf("lists: %v %v", r, l)
	}
	none, e := capread.Read(s, message(ofStruct(-1, 0, 0)), wire.New(plenty))
	if e != api.OK {
		t.Fatal(e)
	}
	if sub, ok := none.Sub(3); ok || sub != nil {
		t.Errorf("a struct that isn't there: %v", sub)
	}
	if len(none.Bytes(1)) != 0 || len(none.Bytes(2)) != 0 || none.Num(0) != 1 {
		t.Error("of nothing: not the defaults")
	}
	for f := 4; f < 8; f++ {
		if l := none.List(f); l == nil || l.Len() != 0 {
			t.Errorf("a list of nothing: %v", l)
		}
	}
}

// R6, R8: a view keeps the bytes alone, answers new memory, and answers the same again.
func TestNothingElseIsKept(t *testing.T) {
	s := read(t, mixed)
	b, want := mixedMessage()
	was := bytes.Clone(b)
	room := append(b, "spare"...)
	v, _ := capread.Read(s, room[:len(b)], wire.New(plenty))
	asked := read(t, mixed)
	for _, r := range s.Structs {
		for i := range r.Fields {
			r.Fields[i] = api.Field{Type: api.Type{Kind: api.U64, Lists: 3}, Def: 77}
		}
	}
	for i := range s.Structs {
		s.Structs[i] = api.Record{}
	}
	s.Enums[0].Names = nil
	for range 2 {
		if got := view.Tree(asked, asked.Root, v); !same(got, want) {
			t.Errorf("%v, not %v", got, want)
		}
		sub, _ := v.Sub(3)
		for _, told := range [][]byte{v.Bytes(1), v.Bytes(2), sub.Bytes(1), v.List(5).Bytes(0)} {
			all := told[:cap(told)]
			for i := range all {
				all[i] = '!'
			}
		}
	}
	if !bytes.Equal(b, was) || string(room[len(b):]) != "spare" {
		t.Error("what was handed in was changed")
	}
}

// R10: what is read out of a view takes no more of the meter.
func TestViewIsPaid(t *testing.T) {
	s := read(t, mixed)
	b, want := mixedMessage()
	m := wire.New(plenty)
	v, _ := capread.Read(s, b, m)
	left := m.Left()
	m.Take(left)
	if m.Take(1); !m.Out() {
		t.Fatal("not out")
	}
	if got := view.Tree(s, s.Root, v); !same(got, want) {
		t.Errorf("%v, not %v", got, want)
	}
	if left >= plenty {
		t.Error("it takes nothing")
	}
}

// R7, R10: a meter that is none, or out, has nothing.
func TestNoMeter(t *testing.T) {
	s := read(t, mixed)
	b, _ := mixedMessage()
	out := wire.New(5)
	out.Take(6)
	for _, m := range []*wire.Meter{nil, out, wire.New(0), wire.New(-1), wire.New(math.MinInt)} {
		if v, e := capread.Read(s, b, m); e != api.ErrBudget || v != nil {
			t.Errorf("%v, error %d", v, e)
		}
	}
}

// P1: questions of which nothing is promised have some answer.
func TestOtherQuestions(t *testing.T) {
	s := read(t, mixed)
	b, _ := mixedMessage()
	v, _ := capread.Read(s, b, wire.New(plenty))
	empty, _ := capread.Read(s, message(ofStruct(-1, 0, 0)), wire.New(plenty))
	sub, _ := v.Sub(3)
	for _, x := range []view.View{v, empty, sub, v.List(6).Sub(0), v.List(6).Sub(2), v.List(4).Sub(0), empty.List(6).Sub(0), v.List(0).Sub(-1)} {
		for _, i := range []int{math.MinInt, -1, 0, 1, 2, 3, 4, 5, 6, 7, 8, 1 << 40, math.MaxInt} {
			x.Num(i)
			x.Bytes(i)
			x.Sub(i)
			l := x.List(i)
			for _, k := range []int{math.MinInt, -1, 0, 1, l.Len(), 1 << 40, math.MaxInt} {
				l.Num(k)
				l.Bytes(k)
				l.List(k).Len()
				l.Sub(k).Num(0)
				l.Sub(k).Bytes(1)
			}
		}
	}
}

// P1, R9: of schemas that are none nothing is promised but that the call ends.
func TestNoSchema(t *testing.T) {
	b, _ := mixedMessage()
	capread.Read(api.Schema{}, b, wire.New(plenty))
	capread.Read(api.Schema{}, nil, nil)
	for _, root := range []int{math.MinInt, -1, 1, math.MaxInt} {
		capread.Read(api.Schema{Structs: make([]api.Record, 1), Root: root}, b, wire.New(plenty))
	}
	for kind := range 20 {
		for _, ref := range []int{math.MinInt, -1, 0, 1, math.MaxInt} {
			for _, lists := range []int{math.MinInt, -1, 0, 1, 2, 50, math.MaxInt} {
				s := api.Schema{Structs: make([]api.Record, 1)}
				for range 9 {
					f := api.Field{Type: api.Type{Kind: api.Kind(kind), Ref: ref, Lists: lists}, Def: math.MaxUint64}
					s.Structs[0].Fields = append(s.Structs[0].Fields, f)
				}
				for i := range 8 {
					for _, at := range []uint64{0, ofList(3, i, 1), ofStruct(0, i, 1), ofStruct(-1, 0, 1)} {
						v, e := capread.Read(s, message(ofStruct(0, i, 8-i), at, at, at, at, at, at, at, at), wire.New(plenty))
						if e == api.OK {
							v.Num(0)
							v.Bytes(0)
							v.Sub(0)
							v.List(0).Sub(0).List(0)
						}
					}
				}
			}
		}
	}
}
