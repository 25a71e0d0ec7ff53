package sbe_test

import (
	"math"
	"strconv"
	"strings"
	"testing"

	"transom/api"
	"transom/sbe"
	"transom/view"
	"transom/wire"
)

// P12.1: a head with any of its numbers wrong.
func TestHeads(t *testing.T) {
	s := read(t, `struct R { x: u32; } struct S { x: u16; t: text; } struct T { x: u8; y: u8; } root S;`)
	right := []int{2, 2, 1, 0}
	form := short(right...) + "\x07\x00" + counted("ab")
	wantForm(t, "right", s, there(num(7), raw("ab")), form)
	for i := range right {
		for n := range 1 << 16 {
			if n == right[i] {
				continue
			}
			wrong := append([]int(nil), right...)
			wrong[i] = n
			wantNone(t, "number "+strconv.Itoa(i)+" of the head", s, short(wrong...)+form[8:])
		}
	}
	for what, wrong := range map[string]string{
		"none": "", "nothing": zeros(8), "big ends": "\x00\x02\x00\x02\x00\x01\x00\x00", "the root's place": short(2, 1, 1, 0), "another struct": head(4, 0), "another struct of that size": head(2, 2), "others changed": short(2, 2, 0, 1), "twice": form[:8] + form[:8],
	} {
		wantNone(t, what, s, wrong+form[8:])
		wantNone(t, what+" alone", s, wrong)
	}
	wantNone(t, "the head alone", s, form[:8])
	for _, b := range [][]byte{nil, {}} {
		if x, e := sbe.Read(s, b, wire.New(plenty)); e != api.ErrMalformed || x != nil {
			t.Errorf("nothing: error %d", e)
		}
	}
}

// P12.1: elements' sizes that aren't theirs, of groups that have elements, and of empty ones.
func TestSizes(t *testing.T) {
	for _, x := range []struct {
		field   string
		size    int
		element string
		v       api.Val
	}{
		{"list<bool>", 1, "\x00", num(0)}, {"list<E>", 1, "\x00", num(0)}, {"list<i8>", 1, "\x00", num(0)}, {"list<u16>", 2, zeros(2), num(0)}, {"list<i32>", 4, zeros(4), num(0)}, {"list<u64>", 8, zeros(8), num(0)},
		{"list<text>", 0, counted(""), raw("")}, {"list<data>", 0, counted(""), raw("")}, {"list<T>", 7, zeros(7) + counted(""), there(num(0), raw(""), num(0), num(0))}, {"list<P>", 0, counted(""), there(raw(""))},
		{"list<list<u8>>", 0, group(1), none}, {"list<list<T>>", 0, group(7), none}, {"list<list<text>>", 0, group(0), none}, {"list<list<list<u64>>>", 0, group(0), none},
		{"T", 7, zeros(7) + counted(""), none}, {"P", 0, counted(""), none},
	} {
		s := read(t, "enum E { a } struct T { a: u32; t: text; b: i16; c: bool; } struct P { d: data; } struct S { x: "+x.field+"; } root S;")
		for count := range 3 {
			elements := repeated(count, x.element)
			sizes := []int{255, 256, 257, 1 << 15, 1<<16 - 1, x.size + 256, x.size << 8, count}
			for size := range 20 {
				sizes = append(sizes, size)
			}
			for _, size := range sizes {
				form := head(0, 2) + group(size, elements...)
				switch {
				case size != x.size || count > 1 && x.field[0] < 'a':
					wantNone(t, x.field+", size "+strconv.Itoa(size), s, form)
				case x.field == "T" && count == 1:
					wantForm(t, x.field, s, there(there(num(0), raw(""), num(0), num(0))), form)
				case x.field == "P" && count == 1:
					wantForm(t, x.field, s, there(there(raw(""))), form)
				default:
					wantForm(t, x.field, s, there(times(count, x.v)), form)
				}
			}
		}
	}
	s := read(t, `struct S { x: list<list<u16>>; } root S;`)
	for size := range 20 {
		wantEither(t, "a list's element", s, head(0, 0)+group(0, group(2, short(5)), group(size)), size == 2, there(many(many(num(5)), none)))
	}
}

// P12.1: a group's and bytes' count: just as many as are there.
func TestCounts(t *testing.T) {
	for _, x := range []struct {
		field   string
		size    int
		element string
		v       api.Val
	}{
		{"list<bool>", 1, "\x01", num(1)}, {"list<u16>", 2, "ab", num(0x6261)}, {"list<u32>", 4, zeros(4), num(0)}, {"list<u64>", 8, zeros(8), num(0)}, {"list<text>", 0, counted("abc"), raw("abc")}, {"list<text>", 0, counted(""), raw("")},
		{"list<list<u8>>", 0, group(1), none}, {"list<list<u8>>", 0, group(1, "\x05"), many(num(5))}, {"list<T>", 1, "\x05" + counted("ab"), there(num(5), raw("ab"))},
	} {
		s := read(t, "struct T { n: u8; t: text; } struct S { x: "+x.field+"; } root S;")
		all := strings.Repeat(x.element, 9)
		for count := range 30 {
			wantEither(t, x.field, s, head(0, 1)+short(x.size, count)+all, count == 9, there(times(9, x.v)))
		}
		for _, count := range []int{9 << 8, 255, 256, 256 + 9, 1 << 15, 1<<15 + 9, 1<<16 - 1} {
			wantNone(t, x.field, s, head(0, 1)+short(x.size, count)+all)
		}
	}
	for _, field := range []string{"text", "data"} {
		s := read(t, "struct S { x: "+field+"; } root S;")
		for count := range 300 {
			wantEither(t, field, s, head(0, 0)+short(count)+zeros(17), count == 17, there(raw(zeros(17))))
		}
		for _, count := range []int{17 << 8, 1<<15 + 17, 1<<16 - 1} {
			wantNone(t, field, s, head(0, 0)+short(count)+zeros(17))
		}
		wantNone(t, field, s, head(0, 0)+"\x00")
	}
}

// P12.1: a struct's group has no element or one.
func TestStructsGroups(t *testing.T) {
	s := read(t, `struct T { x: u8; } struct S { a: T; b: T; } root S;`)
	for a := range 4 {
		for b := range 4 {
			value := func(count int) api.Val {
				if count == 0 {
					return none
				}
				return there(num(9))
			}
			form := head(0, 1) + group(1, repeated(a, "\x09")...) + group(1, repeated(b, "\x09")...)
			wantEither(t, "groups", s, form, a < 2 && b < 2, there(value(a), value(b)))
		}
	}
	for _, count := range []int{2, 3, 10, 256, 257, 1<<15 + 1, 1<<16 - 1} {
		wantNone(t, "more than one", s, head(0, 1)+short(1, count)+strings.Repeat("\x09", count%1000)+group(1))
	}
}

// P12.1: bools are 0 or 1, enums places of values; in fields, in lists, in structs in lists.
func TestNumbersThatAreNone(t *testing.T) {
	s := read(t, `enum E { a } enum F { a, b, c } struct S { x: bool; y: E; z: F; } root S;`)
	lists := read(t, `enum E { a } enum F { a, b, c } struct S { x: list<bool>; y: list<E>; z: list<F>; } root S;`)
	structs := read(t, `enum E { a } enum F { a, b, c } struct T { x: bool; y: E; z: F; } struct S { o: T; l: list<T>; m: list<list<T>>; } root S;`)
	for field, most := range []int{1, 0, 2} {
		for n := range 256 {
			fields, v := []byte{0, 0, 0}, there(num(0), num(0), num(0))
			fields[field], v.Kids[field] = byte(n), num(n)
			three := string(fields)
			wantEither(t, "a number of few", s, head(3, 0)+three, n <= most, v)
			for at := range 3 {
				groups, l := []string{group(1), group(1), group(1)}, there(none, none, none)
				elements, kids := []byte{0, 0, 0}, many(num(0), num(0), num(0))
				elements[at], kids.Kids[at] = byte(n), num(n)
				groups[field], l.Kids[field] = short(1, 3)+string(elements), kids
				wantEither(t, "numbers of few", lists, head(0, 0)+join(groups...), n <= most, l)
			}
			zero := there(num(0), num(0), num(0))
			wantEither(t, "in a struct", structs, head(0, 1)+group(3, three)+group(3)+group(0), n <= most, there(v, none, none))
			wantEither(t, "in a list's struct", structs, head(0, 1)+group(3)+group(3, zeros(3), three)+group(0), n <= most, there(none, many(zero, v), none))
			wantEither(t, "in a list's list's struct", structs, head(0, 1)+group(3)+group(3)+group(0, group(3), group(3, three, zeros(3))), n <= most, there(none, none, many(none, many(v, zero))))
		}
	}
	names := ""
	for i := range api.MaxNames {
		names += ", a" + strconv.Itoa(i)
	}
	s = read(t, "enum E { "+names[2:]+" } struct S { x: E; } root S;")
	for n := range 256 {
		wantEither(t, "the largest enum", s, head(1, 0)+sized(1, n), n < api.MaxNames, there(num(n)))
	}
}

// chainText: a schema of so many structs in one another: each has the next one, or none, and in the last one there may be a field of more.
func chainText(count int, field string) string {
	text := "enum E { a, b } struct T { y: u8; }"
	for i := 1; i < count; i++ {
		text += "struct S" + strconv.Itoa(i) + " { s: S" + strconv.Itoa(i+1) + "; }"
	}
	return text + "struct S" + strconv.Itoa(count) + " { x: " + field + "; } root S1;"
}

// P12.1, P12.2, P8: no deeper than MaxNest: structs, and lists that aren't empty; bytes and empty lists aren't deep.
func TestDeep(t *testing.T) {
	for _, x := range []struct {
		field string
		deep  int // of what is in the innermost struct
		v     api.Val
		form  string
	}{
		{"text", 0, raw("a"), counted("a")}, {"data", 0, raw("\xff"), counted("\xff")},
		{"T", 0, none, group(1)}, {"T", 1, there(num(7)), group(1, "\x07")},
		{"list<u8>", 0, none, group(1)}, {"list<u8>", 1, many(num(3)), group(1, "\x03")}, {"list<E>", 1, many(num(1)), group(1, "\x01")},
		{"list<text>", 0, none, group(0)}, {"list<text>", 1, many(raw("")), group(0, counted(""))}, {"list<data>", 1, many(raw("a")), group(0, counted("a"))},
		{"list<T>", 0, none, group(1)}, {"list<T>", 2, many(there(num(5))), group(1, "\x05")},
		{"list<list<u8>>", 0, none, group(0)}, {"list<list<u8>>", 1, many(none), group(0, group(1))}, {"list<list<u8>>", 2, many(none, many(num(1))), group(0, group(1), group(1, "\x01"))},
		{"list<list<list<text>>>", 0, none, group(0)}, {"list<list<list<text>>>", 1, many(none), group(0, group(0))}, {"list<list<list<text>>>", 2, many(many(none)), group(0, group(0, group(0)))},
		{"list<list<list<text>>>", 3, many(many(many(raw("")))), group(0, group(0, group(0, counted(""))))},
		{"list<list<list<T>>>", 2, many(many(none, none)), group(0, group(0, group(1), group(1)))}, {"list<list<list<T>>>", 4, many(many(many(there(num(2))))), group(0, group(0, group(1, "\x02")))},
	} {
		for count := 5; count <= 15; count++ {
			s := read(t, chainText(count, x.field))
			v, form := there(x.v), x.form
			for range count - 1 {
				v, form = there(v), group(0, form)
			}
			form = head(0, 1) + form
			wantEither(t, x.field+" in "+strconv.Itoa(count), s, form, count+x.deep <= api.MaxNest, v)
			s = read(t, strings.Replace(chainText(count, x.field), "s: S2;", "s: list<S2>;", 1))
			if v = there(many(v.Kids[0])); count > 1 {
				wantEither(t, x.field+" in a list in "+strconv.Itoa(count), s, form, count+x.deep < api.MaxNest, v)
			}
		}
	}
	for count := 1; count <= 15; count++ {
		s := read(t, chainText(count, "u32"))
		v, form := there(num(count)), sized(4, count)
		size := 4
		for range count - 1 {
			v, form, size = there(v), group(size, form), 0
		}
		wantEither(t, strconv.Itoa(count)+" structs", s, head(size, 1)+form, count <= api.MaxNest, v)
	}
}

// P12.1, P12.2: a struct that is in no deeper a struct stands there, whatever is deep beside it.
func TestDeepBeside(t *testing.T) {
	s := read(t, `struct T { y: u8; } struct S { a: list<list<list<T>>>; b: T; c: list<list<list<T>>>; } root S;`)
	deep, form := many(many(many(there(num(1))))), group(0, group(0, group(1, "\x01")))
	wantForm(t, "beside each other", s, there(deep, there(num(2)), deep), head(0, 1)+form+group(1, "\x02")+form)
}

// P12.1, P12.2: ErrCycle of schemas that loop, ahead of all else; and of no others.
func TestCycles(t *testing.T) {
	for text, loops := range map[string]bool{
		`struct S { s: S; } root S;`:                                                                             true,
		`struct S { x: u8; l: list<S>; } root S;`:                                                                true,
		`struct S { l: list<list<list<S>>>; } root S;`:                                                           true,
		`struct A { b: B; } struct B { a: A; } root A;`:                                                          true,
		`struct A { b: B; } struct B { c: C; } struct C { x: u8; b: list<B>; } root A;`:                          true,
		`struct A { x: u8; b: B; } struct B { x: u8; } struct C { c: C; } root A;`:                               false,
		`struct A { a: A; } struct B { x: u8; } root B;`:                                                         false,
		`struct A { b: B; c: C; } struct B { d: D; } struct C { d: D; e: list<D>; } struct D { x: u8; } root A;`: false,
		`struct A { b: B; } struct B { c: C; } struct C { x: u8; } struct D { a: A; d: D; } root A;`:             false,
		`struct A { b: B; } struct B { c: C; } struct C { x: u8; } struct D { a: A; d: D; } root D;`:             true,
		`struct A { b: B; } struct B { c: C; } struct C { d: D; x: u8; } struct D { e: list<list<A>>; } root C;`: true,
	} {
		s := read(t, text)
		v := view.Default(s.Structs[s.Root])
		if !loops {
			wantForm(t, text, s, v, formOf(s, v))
			continue
		}
		for _, m := range []func() *wire.Meter{func() *wire.Meter { return wire.New(plenty) }, func() *wire.Meter { return wire.New(0) }, func() *wire.Meter { return nil }} {
			for _, b := range [][]byte{nil, []byte(head(0, s.Root) + zeros(4)), []byte(head(0, s.Root) + group(0)), make([]byte, api.MaxInput+1)} {
				if x, e := sbe.Read(s, b, m()); e != api.ErrCycle || x != nil {
					t.Errorf("%s: read: error %d", text, e)
				}
			}
			for _, v := range []view.View{view.Of(v), holder{endless{math.MaxInt}}, nil} {
				if b, e := sbe.Write(s, v, m()); e != api.ErrCycle || b != nil {
					t.Errorf("%s: written: error %d", text, e)
				}
			}
		}
	}
}
