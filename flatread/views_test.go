package flatread_test

import (
	"bytes"
	"math"
	"testing"

	"transom/api"
	"transom/flatread"
	"transom/view"
	"transom/wire"
)

// mixed: a schema with a field of each sort, and a message of it, with what it says.
const mixed = `enum E { a, b } struct T { x: i8 = -1; t: text; } struct S { e: E = b; t: text; d: data; s: T; n: list<i16>; p: list<data>; r: list<T>; l: list<list<u8>>; } root S;`

func mixedMessage() ([]byte, api.Val) {
	b := message(
		to("S"), at("ofS"), short(20, 33, 32, 4, 8, 12, 16, 20, 24, 28), at("S"), from("ofS"),
		to("t"), to("d"), to("s"), to("n"), to("p"), to("r"), to("l"), "\x00",
		at("t"), long(3), "abc\x00",
		at("d"), long(2), "\xff\x00",
		at("ofT"), short(8, 9, 8, 4), at("s"), from("ofT"), to("st"), "\xfa",
		at("st"), long(2), "é\x00",
		at("n"), long(2), short(1, 0xfffe),
		at("p"), long(2), to("z"), to("none"), at("z"), long(1), "z", at("none"), long(0),
		at("r"), long(2), to("r0"), to("r1"), at("ofR"), short(6, 5, 4), at("r0"), from("ofR"), "\x00", at("r1"), from("ofE"), at("ofE"), short(4, 4),
		at("l"), long(1), to("l0"), at("l0"), long(3), "\x07\x08\x09",
	)
	return b, there(num(0), raw("abc"), raw("\xff\x00"), there(num(-6), raw("é")), many(num(1), num(-2)), many(raw("z"), raw("")),
		many(there(num(0), raw("")), there(num(-1), raw(""))), many(many(num(7), num(8), num(9))))
}

// nothing: a message that says nothing of its root.
func nothing() []byte {
	return message(to("t"), at("l"), short(4, 4), at("t"), from("l"))
}

// P10.1, P4: all that a view and its items tell.
func TestViewTells(t *testing.T) {
	s := read(t, mixed)
	b, want := mixedMessage()
	wantValue(t, "all sorts", s, b, want)
	for i := range b {
		wantNone(t, "all sorts, cut short", s, b[:i])
	}
	v, _ := flatread.Read(s, b, wire.New(plenty))
	sub, ok := v.Sub(3)
	if !ok || sub.Num(0) != math.MaxUint64-5 || string(sub.Bytes(1)) != "é" {
		t.Errorf("a struct: %v", sub)
	}
	n, p, r, l := v.List(4), v.List(5), v.List(6), v.List(7)
	if n.Len() != 2 || n.Num(1) != math.MaxUint64-1 || p.Len() != 2 || string(p.Bytes(0)) != "z" || len(p.Bytes(1)) != 0 {
		t.Errorf("lists: %v %v", n, p)
	}
	if r.Len() != 2 || r.Sub(0).Num(0) != 0 || r.Sub(1).Num(0) != math.MaxUint64 || l.Len() != 1 || l.List(0).Len() != 3 || l.List(0).Num(2) != 9 {
		t.Errorf("lists: %v %v", r, l)
	}
	none, e := flatread.Read(s, nothing(), wire.New(plenty))
	if e != api.OK {
		t.Fatal(e)
	}
	if sub, ok := none.Sub(3); ok || sub != nil {
		t.Errorf("a struct that isn't there: %v", sub)
	}
	if len(none.Bytes(1)) != 0 || len(none.Bytes(2)) != 0 || none.Num(0) != 1 {
		t.Error("of nothing: not the defaults")
	}
	for f := 4; f < 8; f++ {
		if l := none.List(f); l == nil || l.Len() != 0 {
			t.Errorf("a list of nothing: %v", l)
		}
	}
}

// R6, R8: a view keeps the bytes alone, answers new memory, and answers the same again.
func TestNothingElseIsKept(t *testing.T) {
	s := read(t, mixed)
	b, want := mixedMessage()
	was := bytes.Clone(b)
	room := append(b, "spare"...)
	v, _ := flatread.Read(s, room[:len(b)], wire.New(plenty))
	asked := read(t, mixed)
	for _, r := range s.Structs {
		for i := range r.Fields {
			r.Fields[i] = api.Field{Type: api.Type{Kind: api.U64, Lists: 3}, Def: 77}
		}
	}
	for i := range s.Structs {
		s.Structs[i] = api.Record{}
	}
	s.Enums[0].Names = nil
	for range 2 {
		if got := view.Tree(asked, asked.Root, v); !same(got, want) {
			t.Errorf("%v, not %v", got, want)
		}
		sub, _ := v.Sub(3)
		for _, told := range [][]byte{v.Bytes(1), v.Bytes(2), sub.Bytes(1), v.List(5).Bytes(0)} {
			all := told[:cap(told)]
			for i := range all {
				all[i] = '!'
			}
		}
	}
	if !bytes.Equal(b, was) || string(room[len(b):]) != "spare" {
		t.Error("what was handed in was changed")
	}
}

// R6: what stands behind a message, in its memory, isn't looked at.
func TestSpareRoom(t *testing.T) {
	s := read(t, mixed)
	b, _ := mixedMessage()
	for i := range b {
		wantNone(t, "the rest behind", s, b[:i:len(b)])
	}
}

// R10: what is read out of a view takes no more of the meter.
func TestViewIsPaid(t *testing.T) {
	s := read(t, mixed)
	b, want := mixedMessage()
	m := wire.New(plenty)
	v, _ := flatread.Read(s, b, m)
	left := m.Left()
	m.Take(left)
	if m.Take(1); !m.Out() {
		t.Fatal("not out")
	}
	if got := view.Tree(s, s.Root, v); !same(got, want) {
		t.Errorf("%v, not %v", got, want)
	}
	if left >= plenty {
		t.Error("it takes nothing")
	}
}

// R10: the meter has paid for each byte, element and field that a view may tell.
func TestAllIsPaid(t *testing.T) {
	for field, x := range map[string]struct{ count, steps int }{"data": {1000, 1000}, "text": {1000, 1000}, "list<bool>": {1000, 1000}, "list<i64>": {1000, 1000}, "list<T>": {0, 17}} {
		s := read(t, "struct T { x: u8; } struct S { l: "+field+"; f0: u8; f1: u8; f2: u8; f3: u8; f4: u8; f5: u8; f6: u8; f7: u8; f8: u8; f9: u8; f10: u8; f11: u8; f12: u8; f13: u8; f14: u8; } root S;")
		m := wire.New(plenty)
		if _, e := flatread.Read(s, one(long(x.count), zeros(8*x.count+1)), m); e != api.OK || plenty-m.Left() < x.steps {
			t.Errorf("%s: error %d, %d steps", field, e, plenty-m.Left())
		}
	}
}

// R7, R10: a meter that is none, or out, has nothing.
func TestNoMeter(t *testing.T) {
	s := read(t, mixed)
	b, _ := mixedMessage()
	out := wire.New(5)
	out.Take(6)
	for _, m := range []*wire.Meter{nil, out, wire.New(0), wire.New(-1), wire.New(math.MinInt)} {
		if v, e := flatread.Read(s, b, m); e != api.ErrBudget || v != nil {
			t.Errorf("%v, error %d", v, e)
		}
	}
}

// P1: questions of which nothing is promised have some answer.
func TestOtherQuestions(t *testing.T) {
	s := read(t, mixed)
	b, _ := mixedMessage()
	v, _ := flatread.Read(s, b, wire.New(plenty))
	empty, _ := flatread.Read(s, nothing(), wire.New(plenty))
	sub, _ := v.Sub(3)
	places := []int{math.MinInt, -1, 0, 1, 2, 3, 4, 5, 6, 7, 8, 1 << 40, math.MaxInt}
	for _, x := range []view.View{v, empty, sub, v.List(6).Sub(0), v.List(6).Sub(2), v.List(4).Sub(0), empty.List(6).Sub(0), v.List(0).Sub(-1)} {
		for _, i := range places {
			x.Num(i)
			x.Bytes(i)
			x.Sub(i)
			l := x.List(i)
			for _, k := range append(places, l.Len()) {
				l.Num(k)
				l.Bytes(k)
				l.List(k).Len()
				l.Sub(k).Num(0)
				l.Sub(k).Bytes(1)
				l.Sub(k).List(0).Sub(0).Sub(0)
			}
		}
	}
}

// P1, R9: of schemas that are none nothing is promised but that the call ends.
func TestNoSchema(t *testing.T) {
	b, _ := mixedMessage()
	flatread.Read(api.Schema{}, b, wire.New(plenty))
	flatread.Read(api.Schema{}, nil, nil)
	for _, root := range []int{math.MinInt, -1, 1, math.MaxInt} {
		flatread.Read(api.Schema{Structs: make([]api.Record, 1), Root: root}, b, wire.New(plenty))
	}
	for kind := range 20 {
		for _, ref := range []int{math.MinInt, -1, 0, 1, math.MaxInt} {
			for _, lists := range []int{math.MinInt, -1, 0, 1, 2, 50, math.MaxInt} {
				f := api.Field{Type: api.Type{Kind: api.Kind(kind), Ref: ref, Lists: lists}, Def: math.MaxUint64}
				s := api.Schema{Structs: []api.Record{{Fields: []api.Field{f, f}}}}
				for place := range 13 {
					for n := range 3 {
						b := message(to("t"), at("l"), short(8, 12, place, 0), at("t"), from("l"), long(n), to("x"), at("x"), long(n), long(4), long(0), zeros(40))
						v, e := flatread.Read(s, b, wire.New(plenty))
						if e == api.OK {
							v.Num(0)
							v.Bytes(0)
							v.Sub(0)
							v.List(0).Sub(0).List(0)
						}
					}
				}
			}
		}
	}
}
