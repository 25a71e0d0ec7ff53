package flatwrite_test

import (
	"encoding/binary"
	"math"
	"reflect"
	"testing"

	"transom/api"
	"transom/flatread"
	"transom/flatwrite"
	"transom/schema"
	"transom/view"
	"transom/wire"
)

// plenty: more than any value here may want.
const plenty = 1 << 30

// read: a text's schema.
func read(t *testing.T, text string) api.Schema {
	t.Helper()
	s, fault := schema.Read(text)
	if fault != (api.Fault{}) {
		t.Fatalf("%s: %v", text, fault)
	}
	return s
}

// Messages are written by these, and by texts of bytes: a name of the place that is come to, 4 bytes that point to a place so named, 4 bytes of a table whose list stands there, a number of 4 bytes, numbers of 2 and of other sizes.
type (
	at   string
	to   string
	from string
	long int
)

func sized(size int, l ...int) string {
	var b []byte
	for _, n := range l {
		b = append(b, binary.LittleEndian.AppendUint64(nil, uint64(n))[:size]...)
	}
	return string(b)
}
func short(l ...int) string { return sized(2, l...) }

// zeros: so many bytes 0.
func zeros(n int) string { return string(make([]byte, n)) }

// message: parts, one behind the other.
func message(parts ...any) string {
	var b []byte
	names := map[string]int{}
	for range 2 { // names are known from the first time on
		b = nil
		for _, part := range parts {
			switch x := part.(type) {
			case string:
				b = append(b, x...)
			case at:
				names[string(x)] = len(b)
			case to:
				b = binary.LittleEndian.AppendUint32(b, uint32(names[string(x)]-len(b)))
			case from:
				b = binary.LittleEndian.AppendUint32(b, uint32(len(b)-names[string(x)]))
			case long:
				b = binary.LittleEndian.AppendUint32(b, uint32(x))
			default:
				panic("no part")
			}
		}
	}
	return string(b)
}

// pointing: a message whose root has one field, that points to what stands at place 20, or at a place x behind that.
func pointing(parts ...any) string {
	return message(append([]any{to("t"), at("l"), short(6, 8, 4), zeros(2), at("t"), from("l"), to("x"), at("x")}, parts...)...)
}

// Values are written by these.
func num(n int) api.Val               { return api.Val{Num: uint64(n)} }
func raw(text string) api.Val         { return api.Val{Bytes: []byte(text)} }
func many(kids ...api.Val) api.Val    { return api.Val{Kids: kids} }
func there(fields ...api.Val) api.Val { return api.Val{Has: true, Kids: fields} }

// times: as many of one value.
func times(count int, v api.Val) api.Val {
	var l api.Val
	for range count {
		l.Kids = append(l.Kids, v)
	}
	return l
}

// same: are they one value? Nil is as good as empty.
func same(a, b api.Val) bool {
	if a.Num != b.Num || a.Has != b.Has || string(a.Bytes) != string(b.Bytes) || len(a.Kids) != len(b.Kids) {
		return false
	}
	for i := range a.Kids {
		if !same(a.Kids[i], b.Kids[i]) {
			return false
		}
	}
	return true
}

// wantForm checks what a value is written as, and that this is read as that value, and written as that again.
func wantForm(t *testing.T, what string, s api.Schema, v api.Val, want string) {
	t.Helper()
	if !view.Fits(s, s.Root, v) {
		t.Fatalf("%s: %v doesn't fit", what, v)
	}
	b, e := flatwrite.Write(s, view.Of(v), wire.New(plenty))
	if e != api.OK || string(b) != want {
		t.Errorf("%s: error %d\n%x, not\n%x", what, e, b, want)
		return
	}
	wantBack(t, what, s, v, b)
}

// wantBack checks that a form is read as the value of which it is the form.
func wantBack(t *testing.T, what string, s api.Schema, v api.Val, form []byte) {
	t.Helper()
	x, e := flatread.Read(s, form, wire.New(plenty))
	if len(form) > api.MaxInput {
		if e != api.ErrMalformed {
			t.Errorf("%s: too long to be read, error %d", what, e)
		}
		return
	}
	if e != api.OK {
		t.Errorf("%s: read: error %d", what, e)
		return
	}
	if got := view.Tree(s, s.Root, x); !same(got, v) {
		t.Errorf("%s: read as another value", what)
	}
	if again, e := flatwrite.Write(s, x, wire.New(plenty)); e != api.OK || string(again) != string(form) {
		t.Errorf("%s: written again: error %d, %s", what, e, differ(string(again), string(form)))
	}
}

// P11.1: the chapter's examples.
func TestExamples(t *testing.T) {
	s := read(t, `struct S { x: u8 = 3; } root S;`)
	seven := "\x0c\x00\x00\x00" + "\x06\x00\x05\x00\x04\x00" + "\x00\x00" + "\x08\x00\x00\x00" + "\x07"
	wantForm(t, "x is 7", s, there(num(7)), seven)
	wantForm(t, "x is 3", s, there(num(3)), "\x08\x00\x00\x00"+"\x04\x00\x04\x00"+"\x04\x00\x00\x00")
	if b := message(to("t"), at("l"), short(6, 5, 4), zeros(2), at("t"), from("l"), "\x07"); b != seven {
		t.Errorf("the tests' own way of writing: %x", b)
	}
}

// P11.1: a number that isn't its default is there, with its bytes; the default isn't.
func TestNumbers(t *testing.T) {
	for _, x := range []struct {
		field string
		n     int
		bytes string // none: it isn't there
	}{
		{"bool", 0, ""}, {"bool", 1, "\x01"}, {"bool = true", 1, ""}, {"bool = true", 0, "\x00"},
		{"i8", 0, ""}, {"i8", -1, "\xff"}, {"i8", -128, "\x80"}, {"i8", 127, "\x7f"}, {"i8 = -1", -1, ""}, {"i8 = -1", 0, "\x00"}, {"i8 = -128", 127, "\x7f"},
		{"u8", 0, ""}, {"u8", 255, "\xff"}, {"u8 = 255", 0, "\x00"}, {"u8 = 255", 255, ""}, {"u8 = 85", 170, "\xaa"},
		{"i16", -2, "\xfe\xff"}, {"i16", math.MinInt16, "\x00\x80"}, {"i16 = -2", -1, "\xff\xff"}, {"i16 = -2", -2, ""},
		{"u16", 0xabcd, "\xcd\xab"}, {"u16 = 65535", 1, "\x01\x00"}, {"u16 = 65535", 65535, ""}, {"u16 = 256", 0, "\x00\x00"},
		{"i32", -2, "\xfe\xff\xff\xff"}, {"i32", math.MinInt32, "\x00\x00\x00\x80"}, {"i32 = -1", math.MaxInt32, "\xff\xff\xff\x7f"}, {"i32 = -1", -1, ""},
		{"u32", 0x1234_5678, "\x78\x56\x34\x12"}, {"u32 = 4294967295", 0, "\x00\x00\x00\x00"}, {"u32 = 4294967295", math.MaxUint32, ""},
		{"E", 0, ""}, {"E", 2, "\x02"}, {"E = c", 2, ""}, {"E = c", 0, "\x00"}, {"E = c", 1, "\x01"},
	} {
		s := read(t, "enum E { a, b, c } struct S { x: "+x.field+"; } root S;")
		want := message(to("t"), at("l"), short(6, 4+len(x.bytes), 4), zeros(2), at("t"), from("l"), x.bytes)
		if x.bytes == "" {
			want = message(to("t"), at("l"), short(4, 4), at("t"), from("l"))
		}
		wantForm(t, x.field, s, there(num(x.n)), want)
	}
	for _, x := range []struct {
		field string
		n     int
		there bool
	}{
		{"i64", 0, false}, {"i64", -2, true}, {"i64", math.MinInt64, true}, {"i64 = -1", math.MaxInt64, true}, {"i64 = -1", -1, false}, {"i64 = -1", 0, true},
		{"u64", 0, false}, {"u64", -1, true}, {"u64 = 18446744073709551615", 0, true}, {"u64 = 18446744073709551615", -1, false}, {"u64 = 4294967296", 0, true},
	} {
		s := read(t, "struct S { x: "+x.field+"; } root S;")
		want := message(to("t"), at("l"), short(6, 16, 8), zeros(6), at("t"), from("l"), zeros(4), sized(8, x.n))
		if !x.there {
			want = message(to("t"), at("l"), short(4, 4), at("t"), from("l"))
		}
		wantForm(t, x.field, s, there(num(x.n)), want)
	}
}

// P11.1: fields stand as layout.Tabled says, the widest first; bytes 0 between them belong to nothing.
func TestFieldsPlaces(t *testing.T) {
	s := read(t, `struct S { a: bool; b: u8; t: text; c: i16; d: bool = true; e: u32; f: i64; g: u64; h: i8; d2: data; i: u16; j: E; } enum E { x, y } root S;`)
	v := there(num(1), num(0x22), raw("t"), num(-2), num(0), num(0x4444_4444), num(-6), num(0x66), num(-8), raw("d"), num(0x7777), num(1))
	wantForm(t, "all", s, v, message(to("t"), at("l"), short(28, 45, 40, 41, 24, 36, 42, 28, 8, 16, 43, 32, 38, 44), at("t"), from("l"), zeros(4),
		sized(8, -6, 0x66), to("t text"), long(0x4444_4444), to("data"), sized(2, -2, 0x7777), sized(1, 1, 0x22, 0, -8, 1), zeros(3),
		at("t text"), long(1), "t\x00", zeros(2), at("data"), long(1), "d"))
	wantForm(t, "none", s, view.Default(s.Structs[0]), message(to("t"), at("l"), short(4, 4), at("t"), from("l")))
	s = read(t, `struct S { a: u8; b: u16; c: u8; d: u64; e: u16; } root S;`)
	wantForm(t, "without the widest", s, there(num(1), num(2), num(3), num(0), num(4)), message(to("t"), at("l"), short(14, 10, 8, 4, 9, 0, 6), zeros(2), at("t"), from("l"), short(2, 4), "\x01\x03"))
	wantForm(t, "the widest alone", s, there(num(0), num(0), num(0), num(9), num(0)), message(to("t"), at("l"), short(12, 16, 0, 0, 0, 8), at("t"), from("l"), zeros(4), sized(8, 9)))
	wantForm(t, "the widest, and one byte", s, there(num(5), num(0), num(0), num(9), num(0)), message(to("t"), at("l"), short(12, 17, 16, 0, 0, 8), at("t"), from("l"), zeros(4), sized(8, 9), "\x05"))
}

// P11.1: a table's list has as many fields as the last one that isn't its default needs.
func TestLastField(t *testing.T) {
	s := read(t, `struct S { a: u8 = 1; b: u8 = 2; c: u8 = 3; d: u8 = 4; } root S;`)
	for set := range 16 {
		v, places, fields := there(), []int{}, ""
		last := 0
		for i := range 4 {
			place, n := 0, i+1
			if set>>i&1 == 1 {
				n = 0x11 * (i + 1)
				place = 4 + len(fields)
				fields += string(rune(n))
				last = i + 1
			}
			v.Kids, places = append(v.Kids, num(n)), append(places, place)
		}
		list := short(4+2*last, 4+len(fields)) + short(places[:last]...)
		wantForm(t, "some fields", s, v, message(to("t"), at("l"), list, zeros(len(list)%4), at("t"), from("l"), fields))
	}
	s = read(t, `struct T { x: u8; } struct S { x: u8; t: text; d: data; s: T; l: list<u8>; n: u8; } root S;`)
	none := api.Val{}
	wantForm(t, "all but the last ones", s, there(num(7), raw(""), raw(""), none, none, num(0)), message(to("t"), at("l"), short(6, 5, 4), zeros(2), at("t"), from("l"), "\x07"))
	wantForm(t, "up to an empty list", s, there(num(0), raw("a"), raw(""), there(num(0)), many(), num(0)), message(to("t"), at("l"), short(12, 12, 0, 4, 0, 8), at("t"), from("l"), to("a"), to("s"),
		at("a"), long(1), "a\x00", at("m"), short(4, 4), zeros(2), at("s"), from("m")))
	wantForm(t, "the last one alone", s, there(num(0), raw(""), raw(""), none, none, num(7)), message(to("t"), at("l"), short(16, 5, 0, 0, 0, 0, 0, 4), at("t"), from("l"), "\x07"))
}

// P11.1: a list stands at a multiple of 2, and its table at one of 4, or of 8 if it has a field of 8 bytes.
func TestTablesPlaces(t *testing.T) {
	s := read(t, `struct T { a: u8; b: u64; } struct S { d: data; t: T; } root S;`)
	for length := 1; length < 20; length++ {
		data := zeros(length)
		head := []any{to("t"), at("l"), short(8, 12, 4, 8), at("t"), from("l"), to("d"), to("s"), at("d"), long(length), data}
		end := 24 + 4 + length
		list := end + end%2
		for _, x := range []struct {
			v        api.Val
			list     string
			fields   string
			multiple int
		}{
			{there(num(0), num(0)), short(4, 4), "", 4}, {there(num(5), num(0)), short(6, 5, 4), "\x05", 4},
			{there(num(0), num(5)), short(8, 16, 0, 8), zeros(4) + sized(8, 5), 8}, {there(num(6), num(5)), short(8, 17, 16, 8), zeros(4) + sized(8, 5) + "\x06", 8},
		} {
			table := list + len(x.list)
			for table%x.multiple > 0 {
				table++
			}
			want := message(append(head, zeros(list-end), at("m"), x.list, zeros(table-list-len(x.list)), at("s"), from("m"), x.fields)...)
			wantForm(t, "behind data", s, there(raw(data), x.v), want)
		}
	}
}

// P11.1: bytes stand at a multiple of 4, of a text with a byte 0 behind them; a field of none isn't there.
func TestBytes(t *testing.T) {
	text, data := read(t, `struct S { x: text; } root S;`), read(t, `struct S { x: data; } root S;`)
	nothing := message(to("t"), at("l"), short(4, 4), at("t"), from("l"))
	wantForm(t, "no text", text, there(raw("")), nothing)
	wantForm(t, "no data", data, there(raw("")), nothing)
	for _, x := range []string{"a", "é", "\x00", "\x00\x00", "a\x00b", "abcd", "abcdefgh", "😀abcdefghi"} {
		wantForm(t, "text", text, there(raw(x)), pointing(long(len(x)), x, "\x00"))
		wantForm(t, "data", data, there(raw(x)), pointing(long(len(x)), x))
	}
	wantForm(t, "data that is no text", data, there(raw("\xff\xc3")), pointing(long(2), "\xff\xc3"))
	s := read(t, `struct S { x: data; y: text; z: data; } root S;`)
	for length := 1; length < 12; length++ {
		for more := 1; more < 12; more++ {
			x, y := zeros(length), zeros(more)
			want := message(to("t"), at("l"), short(10, 16, 4, 8, 12), zeros(2), at("t"), from("l"), to("x"), to("y"), to("z"),
				at("x"), long(length), x, zeros((4-length%4)%4), at("y"), long(more), y, "\x00", zeros(3-more%4), at("z"), long(1), "z")
			wantForm(t, "behind bytes", s, there(raw(x), raw(y), raw("z")), want)
		}
	}
}

// P11.1: lists of numbers: these of their size, with no default; a field of none isn't there.
func TestListsOfNumbers(t *testing.T) {
	for _, x := range []struct {
		of   string
		size int
		l    []int
	}{
		{"bool", 1, []int{0}}, {"bool", 1, []int{1, 0, 1}}, {"E", 1, []int{2, 0, 1}}, {"i8", 1, []int{-1, 2, -128}}, {"u8", 1, []int{255, 0, 1}},
		{"i16", 2, []int{-1, 2}}, {"u16", 2, []int{65535, 0, 0, 1}}, {"i32", 4, []int{-1, 2, -3}}, {"u32", 4, []int{7}},
		{"i64", 8, []int{-1, 0, 2, math.MinInt64}}, {"u64", 8, []int{-1}},
	} {
		s := read(t, "enum E { a, b, c } struct S { x: list<"+x.of+">; } root S;")
		var v api.Val
		for _, n := range x.l {
			v.Kids = append(v.Kids, num(n))
		}
		wantForm(t, x.of, s, there(v), pointing(long(len(x.l)), sized(x.size, x.l...))) // elements begin at place 24
		for _, none := range []api.Val{{}, many()} {
			wantForm(t, "none of "+x.of, s, there(none), message(to("t"), at("l"), short(4, 4), at("t"), from("l")))
		}
	}
}

// numberTypes: one of each size, and how many bytes that is.
var numberTypes = []struct {
	of   string
	size int
}{{"bool", 1}, {"E", 1}, {"u8", 1}, {"i16", 2}, {"u32", 4}, {"i64", 8}, {"u64", 8}}

// countPlace: where a list's count stands, from a place on.
func countPlace(place, size int) int {
	for place%4 > 0 || size == 8 && place%8 != 4 {
		place++
	}
	return place
}

// P11.1: a list stands at a multiple of 4, of elements of 8 bytes 4 behind one of 8, whatever stands ahead of it.
func TestListsPlaces(t *testing.T) {
	for _, x := range numberTypes {
		s := read(t, "enum E { a, b } struct S { d: data; x: list<"+x.of+">; y: list<list<"+x.of+">>; } root S;")
		for length := 1; length < 20; length++ {
			for count := 1; count < 5; count++ {
				data, ones := zeros(length), sized(x.size, 1, 1, 1, 1)[:count*x.size]
				end := 32 + 4 + length
				place := countPlace(end, x.size)
				behind := place + 4 + count*x.size
				outer := countPlace(behind, 4)
				first := countPlace(outer+16, x.size)
				second := countPlace(first+4, x.size) // behind an empty list
				third := countPlace(second+4+count*x.size, x.size)
				want := message(to("t"), at("l"), short(10, 16, 4, 8, 12), zeros(2), at("t"), from("l"), to("d"), to("x"), to("y"),
					at("d"), long(length), data, zeros(place-end), at("x"), long(count), ones, zeros(outer-behind),
					at("y"), long(3), to("first"), to("second"), to("third"), zeros(first-outer-16), at("first"), long(0),
					zeros(second-first-4), at("second"), long(count), ones, zeros(third-second-4-count*x.size), at("third"), long(0))
				wantForm(t, x.of, s, there(raw(data), times(count, num(1)), many(many(), times(count, num(1)), many())), want)
			}
		}
	}
}

// P11.1: within a list, of empty bytes and empty lists there is an object, too.
func TestListsOfNothing(t *testing.T) {
	s := read(t, `struct S { t: list<text>; d: list<data>; l: list<list<u16>>; } root S;`)
	none := api.Val{}
	wantForm(t, "empty lists", s, there(none, many(), none), message(to("t"), at("l"), short(4, 4), at("t"), from("l")))
	wantForm(t, "texts", s, there(times(2, raw("")), none, none), pointing(long(2), to("a"), to("b"), at("a"), long(0), "\x00", zeros(3), at("b"), long(0), "\x00"))
	v := there(many(raw(""), raw("a")), many(raw("b"), raw(""), raw("")), many(many(num(3)), many(), many(num(4), num(0))))
	wantForm(t, "of all", s, v, message(to("t"), at("l"), short(10, 16, 4, 8, 12), zeros(2), at("t"), from("l"), to("x"), to("y"), to("z"),
		at("x"), long(2), to("x0"), to("x1"), at("x0"), long(0), "\x00", zeros(3), at("x1"), long(1), "a\x00", zeros(2),
		at("y"), long(3), to("y0"), to("y1"), to("y2"), at("y0"), long(1), "b", zeros(3), at("y1"), long(0), at("y2"), long(0),
		at("z"), long(3), to("z0"), to("z1"), to("z2"), at("z0"), long(1), short(3), zeros(2), at("z1"), long(0), at("z2"), long(2), short(4, 0)))
}

// P11.1: an object stands ahead of all that comes of it, and that ahead of the next element's object.
func TestListsOfLists(t *testing.T) {
	s := read(t, `struct S { l: list<list<list<text>>>; x: data; } root S;`)
	v := there(many(many(many(raw("abc"), raw("bcd")), many()), many(), many(many(raw("cde")))), raw("d"))
	wantForm(t, "in lists", s, v, message(to("t"), at("l"), short(8, 12, 4, 8), at("t"), from("l"), to("x"), to("d"),
		at("x"), long(3), to("x0"), to("x1"), to("x2"),
		at("x0"), long(2), to("x00"), to("x01"),
		at("x00"), long(2), to("abc"), to("bcd"), at("abc"), long(3), "abc\x00", at("bcd"), long(3), "bcd\x00",
		at("x01"), long(0),
		at("x1"), long(0),
		at("x2"), long(1), to("x20"), at("x20"), long(1), to("cde"), at("cde"), long(3), "cde\x00",
		at("d"), long(1), "d"))
}

// P11.1: a struct that is there has a table, be all its fields defaults; one that isn't has none.
func TestStructs(t *testing.T) {
	s := read(t, `struct T { x: u8 = 3; t: text; } struct U { t: T; } struct V { x: u64 = 9; } struct S { a: T; b: U; c: V; } root S;`)
	none := api.Val{}
	wantForm(t, "none there", s, there(none, none, none), message(to("t"), at("l"), short(4, 4), at("t"), from("l")))
	wantForm(t, "one of defaults", s, there(there(num(3), raw("")), none, none), pointing(at("m"), short(4, 4), at("x"), from("m")))
	wantForm(t, "the last one of defaults", s, there(none, none, there(num(9))), message(to("t"), at("l"), short(10, 8, 0, 0, 4), zeros(2), at("t"), from("l"), to("c"), at("m"), short(4, 4), at("c"), from("m")))
	v := there(there(num(2), raw("ab")), there(there(num(3), raw("c"))), there(num(8)))
	wantForm(t, "all", s, v, message(to("t"), at("l"), short(10, 16, 4, 8, 12), zeros(2), at("t"), from("l"), to("a"), to("b"), to("c"),
		at("k"), short(8, 9, 8, 4), at("a"), from("k"), to("ab"), "\x02", zeros(3), at("ab"), long(2), "ab\x00", zeros(1),
		at("m"), short(6, 8, 4), zeros(2), at("b"), from("m"), to("bt"),
		at("n"), short(8, 8, 0, 4), at("bt"), from("n"), to("bc"), at("bc"), long(1), "c\x00",
		at("o"), short(6, 16, 8), at("c"), from("o"), zeros(4), sized(8, 8)))
}

// P11.1: each struct in a list has a table of its own, and what comes of it behind it.
func TestListsOfStructs(t *testing.T) {
	s := read(t, `struct T { x: u8 = 3; t: text; l: list<T>; } struct S { l: list<T>; d: data; } root S;`)
	none := api.Val{}
	wantForm(t, "no elements", s, there(none, raw("d")), message(to("t"), at("l"), short(8, 8, 0, 4), at("t"), from("l"), to("d"), at("d"), long(1), "d"))
	wantForm(t, "of defaults", s, there(times(2, there(num(3), raw(""), none)), raw("")), pointing(long(2), to("a"), to("b"), at("k"), short(4, 4), at("a"), from("k"), at("m"), short(4, 4), at("b"), from("m")))
	inner := many(there(num(5), raw(""), none))
	v := there(many(there(num(4), raw("a"), inner), there(num(3), raw("c"), many()), there(num(7), raw(""), none)), raw("e"))
	wantForm(t, "of more", s, v, message(to("t"), at("l"), short(8, 12, 4, 8), at("t"), from("l"), to("x"), to("e"),
		at("x"), long(3), to("x0"), to("x1"), to("x2"),
		at("k"), short(10, 13, 12, 4, 8), zeros(2), at("x0"), from("k"), to("a"), to("l0"), "\x04", zeros(3),
		at("a"), long(1), "a\x00", zeros(2),
		at("l0"), long(1), to("y"), at("m"), short(6, 5, 4), zeros(2), at("y"), from("m"), "\x05", zeros(1),
		at("n"), short(8, 8, 0, 4), zeros(2), at("x1"), from("n"), to("c"), at("c"), long(1), "c\x00",
		at("o"), short(6, 5, 4), at("x2"), from("o"), "\x07", zeros(3),
		at("e"), long(1), "e"))
}

// P11.1: structs stand in lists of lists, too.
func TestStructsInListsOfLists(t *testing.T) {
	s := read(t, `struct P { d: data; } struct S { q: list<list<P>>; } root S;`)
	wantForm(t, "in lists", s, there(many(many(), many(there(raw(""))), many(there(raw("b")), there(raw("c"))))), pointing(long(3), to("q0"), to("q1"), to("q2"),
		at("q0"), long(0),
		at("q1"), long(1), to("p"), at("k"), short(4, 4), at("p"), from("k"),
		at("q2"), long(2), to("p0"), to("p1"),
		at("m"), short(6, 8, 4), zeros(2), at("p0"), from("m"), to("b"), at("b"), long(1), "b", zeros(1),
		at("n"), short(6, 8, 4), at("p1"), from("n"), to("c"), at("c"), long(1), "c"))
}

// P11.1: the whole is the schema's root, whichever struct that is.
func TestRoot(t *testing.T) {
	s := read(t, `struct A { x: u8; } struct B { a: A; t: text; } struct C { x: u64; } root B;`)
	wantForm(t, "the second", s, there(there(num(1)), raw("")), pointing(at("m"), short(6, 5, 4), zeros(2), at("x"), from("m"), "\x01"))
	s.Root = 2
	wantForm(t, "the third", s, there(num(1)), message(to("t"), at("l"), short(6, 16, 8), zeros(6), at("t"), from("l"), zeros(4), sized(8, 1)))
}

// P11.1, P11.2: as deep as may be.
func TestDeepest(t *testing.T) {
	s := read(t, `struct S { s: S; l: list<list<list<u8>>>; r: list<S>; } root S;`)
	none := api.Val{}
	bare := there(none, none, none)
	v, form := bare, short(4, 4)+sized(4, 4)
	for range api.MaxNest - 1 {
		v, form = there(v, none, none), short(6, 8, 4)+zeros(2)+sized(4, 8, next(form))+form
	}
	wantForm(t, "structs", s, v, sized(4, 12)+form)
	v, form = bare, short(4, 4)+sized(4, 4)
	for range api.MaxNest/2 - 1 {
		v, form = there(none, none, many(v)), short(10, 8, 0, 0, 4)+zeros(2)+sized(4, 12, 4, 1, next(form))+form
	}
	wantForm(t, "structs in lists", s, v, sized(4, 16)+form)
	v = there(none, many(many(many(num(7)))), none)
	form = short(8, 8, 0, 4) + sized(4, 8, 4, 1, 4, 1, 4, 1) + "\x07"
	for range api.MaxNest - 4 {
		v, form = there(v, none, none), short(6, 8, 4)+zeros(2)+sized(4, 8, next(form))+form
	}
	wantForm(t, "lists in structs", s, v, sized(4, 12)+form)
}

// next: what a place says that points to the table of a list that stands right behind it.
func next(form string) int {
	list := int(form[0])
	return 4 + list + list%4
}

// P5, P11.2: however a value stands in a message, it has one form, and this is the form of the value as such.
func TestOneForm(t *testing.T) {
	s := read(t, `struct T { x: u8 = 3; t: text; } struct S { a: T; b: T; l: list<T>; n: list<list<bool>>; d: data; } root S;`)
	v := there(there(num(7), raw("abc")), there(num(7), raw("abc")), times(2, there(num(3), raw(""))), many(many(), many(num(1), num(0))), raw(""))
	want := message(to("t"), at("root"), short(12, 20, 4, 8, 12, 16), at("t"), from("root"), to("a"), to("b"), to("l"), to("n"),
		at("k"), short(8, 9, 8, 4), at("a"), from("k"), to("abc"), "\x07", zeros(3), at("abc"), long(3), "abc\x00",
		at("m"), short(8, 9, 8, 4), at("b"), from("m"), to("bcd"), "\x07", zeros(3), at("bcd"), long(3), "abc\x00",
		at("l"), long(2), to("l0"), to("l1"), at("o"), short(4, 4), at("l0"), from("o"), at("p"), short(4, 4), at("l1"), from("p"),
		at("n"), long(2), to("n0"), to("n1"), at("n0"), long(0), at("n1"), long(2), "\x01\x00")
	wantForm(t, "as such", s, v, want)
	for what, b := range map[string]string{
		"one object of several places": message(to("t"), at("k"), short(12, 20, 4, 8, 12, 16), at("t"), from("k"), to("a"), to("a"), to("l"), to("n"),
			at("k2"), short(8, 9, 8, 4), at("a"), from("k2"), to("abc"), "\x07", at("abc"), long(3), "abc\x00",
			at("l"), long(2), to("l0"), to("l0"), at("o"), short(4, 4), at("l0"), from("o"),
			at("n"), long(2), to("n0"), to("n1"), at("n0"), long(0), at("n1"), long(2), "\x01\x00", zeros(100)),
		"defaults that are there, longer lists, other places": message(to("t"), "----", at("t"), from("k"), to("n"), to("l"), to("b"), to("d"), "-", to("a"), at("k"), short(18, 25, 21, 12, 8, 4, 16, 24, 99),
			at("d"), long(0), at("n"), long(2), to("n0"), to("n1"), at("n1"), long(2), "\x01\x00-", at("n0"), long(0),
			at("k2"), short(10, 9, 4, 5, 7), at("b"), from("k2"), "\x07", to("abc"), at("abc"), long(3), "abc\x00",
			at("k3"), short(8, 10, 9, 4), at("a"), from("k3"), to("bcd"), "-\x07", at("bcd"), long(3), "abc\x00",
			at("l"), long(2), to("l0"), to("l1"), at("k4"), short(8, 9, 8, 4), at("l0"), from("k4"), to("e"), "\x03", at("k5"), short(8, 4, 0, 0), at("l1"), from("k5"), at("e"), long(0), "\x00"),
	} {
		x, e := flatread.Read(s, []byte(b), wire.New(plenty))
		if e != api.OK {
			t.Errorf("%s: read: error %d", what, e)
			continue
		}
		if got := view.Tree(s, s.Root, x); !same(got, v) {
			t.Errorf("%s: read as %v", what, got)
		}
		if b, e := flatwrite.Write(s, x, wire.New(plenty)); e != api.OK || string(b) != want {
			t.Errorf("%s: error %d\n%x, not\n%x", what, e, b, want)
		}
	}
}

// R8: the same again, with the same arguments.
func TestAgain(t *testing.T) {
	s := read(t, `struct S { t: list<text>; l: list<list<u8>>; } root S;`)
	v := view.Of(there(many(raw("a"), raw("bc")), many(many(num(1)))))
	first, _ := flatwrite.Write(s, v, wire.New(plenty))
	for range 20 {
		if b, e := flatwrite.Write(s, v, wire.New(plenty)); e != api.OK || !reflect.DeepEqual(b, first) {
			t.Errorf("error %d, %x, not %x", e, b, first)
		}
	}
}
