package jsonread_test

import (
	"math"
	"strconv"
	"strings"
	"sync"
	"testing"

	"transom/api"
	"transom/jsonread"
	"transom/view"
	"transom/wire"
)

// allSorts: a schema with a field of each sort; full: a text that says something of each but one.
const (
	allSorts = `enum E { a, b } struct T { x: i8 = -1; t: text; } struct S { e: E = b; b: bool; t: text; d: data; s: T; n: list<i16>; p: list<data>; r: list<T>; l: list<list<u8>>; m: list<list<T>>; u: T; w: i64 = -5; v: u64; q: list<E>; i: list<list<i64>>; k: list<bool>; } root S;`
	full     = ` { "w" : "-12345678901", "l": [ [7,8], [] ], "e":"a", "b":true, "t":"a\u0062c", "d":"ff00", "s":{"t":"é","x":-6}, "n":[1 ,-2], "p":["7a",""], "m":[[],[{"x":-6,"\u0074":"\u00e9"}]], "r":[{"x":-6,"t":"é"},{}], "v":"18446744073709551615", "q":["b","a","b"], "i":[["-9223372036854775808"]], "k":[false,true] } `
)

func fullValue() api.Val {
	one := there(num(-6), raw("é"))
	return there(num(0), num(1), raw("abc"), raw("\xff\x00"), one, many(num(1), num(-2)), many(raw("z"), raw("")), many(one, there(num(-1), raw(""))),
		many(many(num(7), num(8)), none), many(none, many(one)), none, num(-12345678901), num(-1), many(num(1), num(0), num(1)), many(many(num(math.MinInt64))), many(num(0), num(1)))
}

// open: a text as a view.
func open(t *testing.T, s api.Schema, text string) view.View {
	t.Helper()
	v, e := jsonread.Read(s, []byte(text), wire.New(plenty))
	if e != api.OK {
		t.Fatalf("%s: error %d", text, e)
	}
	return v
}

// P14.1, P4: all that a view and its items tell.
func TestViewTells(t *testing.T) {
	s := read(t, allSorts)
	wantValue(t, s, full, fullValue())
	v := open(t, s, full)
	negative := func(n int) uint64 { return uint64(n) }
	if v.Num(0) != 0 || v.Num(1) != 1 || v.Num(11) != negative(-12345678901) || v.Num(12) != math.MaxUint64 || string(v.Bytes(2)) != "abc" || string(v.Bytes(3)) != "\xff\x00" {
		t.Error("numbers and bytes")
	}
	sub, ok := v.Sub(4)
	if !ok || sub.Num(0) != negative(-6) || string(sub.Bytes(1)) != "é" {
		t.Errorf("a struct: %v", sub)
	}
	if sub, ok := v.Sub(10); ok || sub != nil {
		t.Errorf("a struct that isn't there: %v", sub)
	}
	n, p, r, l, m, q := v.List(5), v.List(6), v.List(7), v.List(8), v.List(9), v.List(13)
	if n.Len() != 2 || n.Num(0) != 1 || n.Num(1) != negative(-2) || p.Len() != 2 || string(p.Bytes(0)) != "z" || len(p.Bytes(1)) != 0 {
		t.Errorf("lists: %v %v", n, p)
	}
	if q.Len() != 3 || q.Num(0) != 1 || q.Num(1) != 0 || q.Num(2) != 1 || v.List(14).List(0).Num(0) != 1<<63 || v.List(15).Num(0) != 0 || v.List(15).Num(1) != 1 {
		t.Errorf("lists of enums, of 64 bits, of bools: %v", q)
	}
	if r.Len() != 2 || r.Sub(0).Num(0) != negative(-6) || string(r.Sub(0).Bytes(1)) != "é" || r.Sub(1).Num(0) != negative(-1) || len(r.Sub(1).Bytes(1)) != 0 {
		t.Errorf("structs: %v", r)
	}
	if l.Len() != 2 || l.List(0).Len() != 2 || l.List(0).Num(1) != 8 || l.List(1).Len() != 0 || m.Len() != 2 || m.List(0).Len() != 0 || m.List(1).Sub(0).Num(0) != negative(-6) {
		t.Errorf("lists of lists: %v %v", l, m)
	}
}

// P14.1: of fields that aren't said it tells their defaults.
func TestViewTellsDefaults(t *testing.T) {
	s := read(t, allSorts)
	v := open(t, s, "{}")
	if v.Num(0) != 1 || v.Num(1) != 0 || v.Num(11) != math.MaxUint64-4 || v.Num(12) != 0 || len(v.Bytes(2)) != 0 || len(v.Bytes(3)) != 0 {
		t.Error("numbers and bytes")
	}
	for _, f := range []int{4, 10} {
		if sub, ok := v.Sub(f); ok || sub != nil {
			t.Errorf("a struct that isn't there: %v", sub)
		}
	}
	for _, f := range []int{5, 6, 7, 8, 9, 13, 14, 15} {
		if l := v.List(f); l == nil || l.Len() != 0 {
			t.Errorf("an empty list: %v", l)
		}
	}
	for i, f := range s.Structs[1].Fields {
		if !view.Empty(f, v, i) {
			t.Errorf("%s isn't its default", f.Name)
		}
	}
	sub, ok := open(t, s, `{"s":{}}`).Sub(4)
	if !ok || sub.Num(0) != math.MaxUint64 || len(sub.Bytes(1)) != 0 {
		t.Errorf("a struct of which nothing is said: %v", sub)
	}
}

// P14.1: elements and fields are told in any order, and again.
func TestAnyOrder(t *testing.T) {
	s := read(t, `struct U { t: text; n: u8; } struct T { u: U; l: list<text>; n: u16; } struct S { r: list<T>; } root S;`)
	const count = 50
	var elements []string
	for i := range count {
		var texts []string
		for k := range i % 7 {
			texts = append(texts, `"`+strings.Repeat("x", k+i)+`"`)
		}
		elements = append(elements, `{"n":`+strconv.Itoa(1000+i)+`,"l":[`+strings.Join(texts, ", ")+`],"u":{"n":`+strconv.Itoa(i)+`,"t":"`+strings.Repeat("y", i)+`"}}`)
	}
	l := open(t, s, `{"r":[`+strings.Join(elements, " ,\n")+`]}`).List(0)
	for k := range 3 * count {
		i := (k * 37) % count
		y := l.Sub(i)
		texts := y.List(1)
		for j := texts.Len() - 1; j >= 0; j-- {
			if string(texts.Bytes(j)) != strings.Repeat("x", i+j) {
				t.Errorf("element %d, text %d: %d bytes", i, j, len(texts.Bytes(j)))
			}
		}
		u, ok := y.Sub(0)
		if !ok || u.Num(1) != uint64(i) || string(u.Bytes(0)) != strings.Repeat("y", i) || y.Num(2) != uint64(1000+i) || texts.Len() != i%7 {
			t.Errorf("element %d", i)
		}
	}
}

// R6, R8: a view keeps the bytes alone, answers new memory, and answers the same again.
func TestNothingElseIsKept(t *testing.T) {
	s := read(t, allSorts)
	room := []byte(full + "spare")
	v, _ := jsonread.Read(s, room[:len(full)], wire.New(plenty))
	for _, r := range s.Structs {
		for i := range r.Fields {
			r.Fields[i] = api.Field{Name: "z", Type: api.Type{Kind: api.U64, Lists: 3}, Def: 77}
		}
	}
	for i := range s.Structs {
		s.Structs[i] = api.Record{}
	}
	s.Enums[0].Names[0], s.Enums[0].Names[1] = "b", "a"
	s.Enums[0].Names = nil
	asked := read(t, allSorts)
	for range 2 {
		if got := view.Tree(asked, asked.Root, v); !same(got, fullValue()) {
			t.Errorf("%v", got)
		}
		sub, _ := v.Sub(4)
		for _, told := range [][]byte{v.Bytes(2), v.Bytes(3), sub.Bytes(1), v.List(6).Bytes(0), v.List(7).Sub(0).Bytes(1)} {
			all := told[:cap(told)]
			for i := range all {
				all[i] = '!'
			}
		}
	}
	if string(room) != full+"spare" {
		t.Error("what was handed in was changed")
	}
}

// R6: what stands behind a text, in its memory, isn't looked at.
func TestSpareRoom(t *testing.T) {
	s, b := read(t, allSorts), []byte(full)
	for i := range len(full) - 1 { // but for the blank at its end
		if v, e := jsonread.Read(s, b[:i], wire.New(plenty)); e != api.ErrMalformed || v != nil {
			t.Errorf("cut at %d, the rest behind: error %d", i, e)
		}
	}
	if _, e := jsonread.Read(s, b[:len(full)-1], wire.New(plenty)); e != api.OK {
		t.Errorf("without the blank at its end: error %d", e)
	}
}

// R6: the schema isn't changed.
func TestSchemaIsLeft(t *testing.T) {
	s := read(t, allSorts)
	v := open(t, s, full)
	asked := read(t, allSorts)
	if view.Tree(s, s.Root, v); !same(view.Tree(asked, asked.Root, v), view.Tree(s, s.Root, v)) {
		t.Error("the schema was changed")
	}
	for i, r := range s.Structs {
		for k, f := range r.Fields {
			if f != asked.Structs[i].Fields[k] {
				t.Errorf("%v", f)
			}
		}
	}
}

// R8: of the same arguments the same, whatever was asked ahead.
func TestAgain(t *testing.T) {
	s, v := read(t, allSorts), fullValue()
	for range 20 {
		wantValue(t, s, full, v)
		wantNone(t, s, full+"x")
		wantValue(t, s, "{}", view.Default(s.Structs[1]))
	}
}

// R10: what is read out of a view takes no more of the meter.
func TestViewIsPaid(t *testing.T) {
	s := read(t, allSorts)
	m := wire.New(plenty)
	v, _ := jsonread.Read(s, []byte(full), m)
	left := m.Left()
	if left >= plenty-len(full) {
		t.Errorf("it takes %d", plenty-left)
	}
	m.Take(left)
	if m.Take(1); !m.Out() {
		t.Fatal("not out")
	}
	if got := view.Tree(s, s.Root, v); !same(got, fullValue()) {
		t.Errorf("%v", got)
	}
}

// R8: a view that several ask at once tells each the same.
func TestTogether(t *testing.T) {
	s, want := read(t, allSorts), fullValue()
	v := open(t, s, full)
	var all sync.WaitGroup
	for range 8 {
		all.Go(func() {
			for range 50 {
				if got := view.Tree(s, s.Root, v); !same(got, want) {
					t.Errorf("%v", got)
				}
			}
		})
	}
	all.Wait()
}

// P1: questions of which nothing is promised have some answer.
func TestOtherQuestions(t *testing.T) {
	s := read(t, allSorts)
	v, empty := open(t, s, full), open(t, s, "{}")
	sub, _ := v.Sub(4)
	places := []int{math.MinInt, -1, 0, 1, 2, 3, 4, 5, 6, 7, 8, 9, 10, 11, 12, 13, 14, 15, 16, 1 << 40, math.MaxInt}
	for _, x := range []view.View{v, empty, sub, v.List(7).Sub(0), v.List(7).Sub(2), v.List(5).Sub(0), empty.List(7).Sub(0), v.List(0).Sub(-1)} {
		for _, i := range places {
			x.Num(i)
			x.Bytes(i)
			if y, ok := x.Sub(i); ok {
				for _, k := range places {
					y.Num(k)
					y.Bytes(k)
				}
			}
			l := x.List(i)
			for _, k := range append(places, l.Len()) {
				l.Num(k)
				l.Bytes(k)
				l.List(k).Len()
				l.List(k).List(0).Sub(0).List(1)
				l.Sub(k).Num(0)
				l.Sub(k).Bytes(1)
				l.Sub(k).List(0).Sub(0).Sub(0)
			}
		}
	}
}

// P1, R9: of schemas that are none nothing is promised but that the calls end.
func TestNothingPromised(t *testing.T) {
	texts := []string{"", "{}", `{"x":1}`, `{"x":"1"}`, `{"":1}`, `{"x":[]}`, `{"x":[[{}]]}`, `{"x":{"x":{}}}`, `{"x":true}`, `{"x":` + strings.Repeat("[", 100) + strings.Repeat("]", 100) + "}"}
	for _, root := range []int{math.MinInt, -1, 0, 1, math.MaxInt} {
		for structs := range 2 {
			for _, text := range texts {
				if x, e := jsonread.Read(api.Schema{Structs: make([]api.Record, structs), Root: root}, []byte(text), wire.New(plenty)); e == api.OK {
					x.Num(0)
				}
			}
		}
	}
	for kind := range 256 {
		for _, ref := range []int{math.MinInt, -1, 0, 1, math.MaxInt} {
			for _, lists := range []int{math.MinInt, -1, 0, 1, 2, 200, math.MaxInt} {
				f := api.Field{Name: "x", Type: api.Type{Kind: api.Kind(kind), Ref: ref, Lists: lists}, Def: math.MaxUint64}
				s := api.Schema{Structs: []api.Record{{}, {Fields: []api.Field{f, f, {}}}}, Root: 1}
				for _, text := range texts {
					if x, e := jsonread.Read(s, []byte(text), wire.New(plenty)); e == api.OK {
						for i := range 3 {
							x.Num(i)
							x.Bytes(i)
							x.Sub(i)
							x.List(i).Sub(0).List(0)
						}
					}
				}
			}
		}
	}
}
