package flatread_test

import (
	"bytes"
	"encoding/binary"
	"math"
	"reflect"
	"testing"

	"transom/api"
	"transom/flatread"
	"transom/schema"
	"transom/view"
	"transom/wire"
)

// read: a text's schema.
func read(t *testing.T, text string) api.Schema {
	t.Helper()
	s, fault := schema.Read(text)
	if fault != (api.Fault{}) {
		t.Fatalf("%s: %v", text, fault)
	}
	return s
}

// plenty: more than any message here may want.
const plenty = 1 << 30

// Messages are written by these, and by texts of bytes: a name of the place that is come to, 4 bytes that point to a place so named, 4 bytes of a table whose list stands there, a number of 4 bytes, numbers of 2.
type (
	at   string
	to   string
	from string
	long int
)

func short(l ...int) string {
	var b []byte
	for _, n := range l {
		b = binary.LittleEndian.AppendUint16(b, uint16(n))
	}
	return string(b)
}

// zeros: so many bytes 0.
func zeros(n int) string { return string(make([]byte, n)) }

// message: parts, one behind the other.
func message(parts ...any) []byte {
	var b []byte
	names := map[string]int{}
	for range 2 { // names are known from the first time on
		b = nil
		for _, part := range parts {
			switch x := part.(type) {
			case string:
				b = append(b, x...)
			case at:
				names[string(x)] = len(b)
			case to:
				b = binary.LittleEndian.AppendUint32(b, uint32(names[string(x)]-len(b)))
			case from:
				b = binary.LittleEndian.AppendUint32(b, uint32(len(b)-names[string(x)]))
			case long:
				b = binary.LittleEndian.AppendUint32(b, uint32(x))
			default:
				panic("no part")
			}
		}
	}
	return b
}

// parts: lists of parts, one behind the other.
func parts(lists ...[]any) []any {
	var all []any
	for _, l := range lists {
		all = append(all, l...)
	}
	return all
}

// Values are written by these.
func num(n int) api.Val               { return api.Val{Num: uint64(n)} }
func raw(text string) api.Val         { return api.Val{Bytes: []byte(text)} }
func many(kids ...api.Val) api.Val    { return api.Val{Kids: kids} }
func there(fields ...api.Val) api.Val { return api.Val{Has: true, Kids: fields} }

// bareOf: the value with nil for what is empty.
func bareOf(v api.Val) api.Val {
	out := api.Val{Num: v.Num, Has: v.Has, Bytes: append([]byte(nil), v.Bytes...)}
	for _, kid := range v.Kids {
		out.Kids = append(out.Kids, bareOf(kid))
	}
	return out
}

// same: are they one value?
func same(a, b api.Val) bool { return reflect.DeepEqual(bareOf(a), bareOf(b)) }

// wantValue checks that a message denotes a value, and that Read leaves it as it is.
func wantValue(t *testing.T, what string, s api.Schema, b []byte, want api.Val) {
	t.Helper()
	was := bytes.Clone(b)
	v, e := flatread.Read(s, b, wire.New(plenty))
	if e != api.OK {
		t.Errorf("%q: error %d", what, e)
		return
	}
	if got := view.Tree(s, s.Root, v); !same(got, want) {
		t.Errorf("%q: %v, not %v", what, got, want)
	}
	if !bytes.Equal(b, was) {
		t.Errorf("%q: the message was changed", what)
	}
}

// wantNone checks that a message denotes nothing.
func wantNone(t *testing.T, what string, s api.Schema, b []byte) {
	t.Helper()
	if v, e := flatread.Read(s, b, wire.New(plenty)); e != api.ErrMalformed || v != nil {
		t.Errorf("%q: %v, error %d", what, v, e)
	}
}

// wantEither checks one or the other.
func wantEither(t *testing.T, what string, s api.Schema, b []byte, ok bool, want api.Val) {
	t.Helper()
	if ok {
		wantValue(t, what, s, b, want)
	} else {
		wantNone(t, what, s, b)
	}
}

// small: a schema of one number.
const small = `struct S { x: u8 = 3; } root S;`

// P10.1: the chapter's examples.
func TestExamples(t *testing.T) {
	s := read(t, small)
	seven := "\x0c\x00\x00\x00" + "\x06\x00\x05\x00\x04\x00" + "\x00\x00" + "\x08\x00\x00\x00" + "\x07"
	wantValue(t, "x is 7", s, []byte(seven), there(num(7)))
	wantValue(t, "x is 3", s, []byte("\x08\x00\x00\x00"+"\x04\x00\x04\x00"+"\x04\x00\x00\x00"), there(num(3)))
	if b := message(to("t"), at("l"), short(6, 5, 4), zeros(2), at("t"), from("l"), "\x07"); string(b) != seven {
		t.Errorf("the tests' own way of writing: %x", b)
	}
}

// P10.1: place 0 points to the root's table.
func TestRoot(t *testing.T) {
	s := read(t, small)
	good := message(to("t"), at("l"), short(6, 5, 4), at("t"), from("l"), "\x07")
	wantValue(t, "good", s, good, there(num(7)))
	for i := range good {
		wantNone(t, "cut short", s, good[:i])
	}
	for _, behind := range []string{"\x00", "\xff\xff\xff", zeros(100)} {
		wantValue(t, "something behind", s, append(bytes.Clone(good), behind...), there(num(7)))
	}
	for n := range 30 {
		b := bytes.Clone(good)
		binary.LittleEndian.PutUint32(b, uint32(n))
		wantEither(t, "another place", s, b, n == 10, there(num(7)))
	}
	for _, n := range []uint32{1<<16 + 10, 1<<24 + 10, 1 << 31, 1<<31 + 10, math.MaxUint32, math.MaxUint32 - 4} {
		b := bytes.Clone(good)
		binary.LittleEndian.PutUint32(b, n)
		wantNone(t, "a place outside", s, b)
	}
	wantNone(t, "nothing", s, nil)
	wantNone(t, "nothing", s, []byte{})
	s = read(t, `struct T { x: u16; y: u8; } struct S { x: u8 = 3; y: u16 = 5; } root S;`)
	wantValue(t, "the root is another than the first", s, good, there(num(7), num(5)))
}

// P10.1: MaxInput.
func TestLongest(t *testing.T) {
	s := read(t, small)
	b := message(to("t"), at("l"), short(6, 5, 4), zeros(api.MaxInput-15), at("t"), from("l"), "\x07")
	if len(b) != api.MaxInput {
		t.Fatal(len(b))
	}
	wantValue(t, "just so long", s, b, there(num(7)))
	long := append(b, 0)
	wantNone(t, "a byte longer", s, long)
	for _, m := range []*wire.Meter{nil, wire.New(0)} { // R2: this error is asked for ahead of the budget
		if v, e := flatread.Read(s, long, m); e != api.ErrMalformed || v != nil {
			t.Errorf("too long, and no budget: %d", e)
		}
	}
	wantNone(t, "far too long", s, make([]byte, 1<<20))
}
