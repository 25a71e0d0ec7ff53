package flatwrite_test

import (
	"encoding/binary"
	"math/rand"
	"slices"
	"strconv"
	"strings"
	"testing"

	"transom/api"
	"transom/capread"
	"transom/capwrite"
	"transom/flatread"
	"transom/flatwrite"
	"transom/schema"
	"transom/view"
	"transom/wire"
)

// P11.1, said once more apart from the program: what the one form of a value is, however long.

// kindSizes: of numbers, in bytes.
var kindSizes = map[api.Kind]int{api.Bool: 1, api.I8: 1, api.U8: 1, api.Enum: 1, api.I16: 2, api.U16: 2, api.I32: 4, api.U32: 4, api.I64: 8, api.U64: 8}

// sizeOf: a number's bytes; 0: it is none.
func sizeOf(t api.Type) int {
	if t.Lists > 0 {
		return 0
	}
	return kindSizes[t.Kind]
}

// inlineOf: the bytes that a value takes where it stands.
func inlineOf(t api.Type) int {
	if size := sizeOf(t); size > 0 {
		return size
	}
	return 4
}

// isDefault: of a field's value.
func isDefault(f api.Field, v api.Val) bool {
	return !v.Has && len(v.Kids) == 0 && len(v.Bytes) == 0 && (sizeOf(f.Type) == 0 || v.Num == f.Def)
}

// former grows a form.
type former struct {
	s api.Schema
	b []byte
}

// formOf: the one form of a value of the root.
func formOf(s api.Schema, v api.Val) string {
	f := &former{s: s, b: make([]byte, 4)}
	f.value(0, api.Type{Kind: api.Struct, Ref: s.Root}, v)
	return string(f.b)
}

// pad: bytes 0, until what stands so many bytes behind the end stands at a multiple.
func (f *former) pad(behind, multiple int) {
	for (len(f.b)+behind)%multiple != 0 {
		f.b = append(f.b, 0)
	}
}

// point: a place points to the end.
func (f *former) point(at int) { binary.LittleEndian.PutUint32(f.b[at:], uint32(len(f.b)-at)) }

// number: at the end.
func (f *former) number(n uint64, size int) {
	f.b = append(f.b, binary.LittleEndian.AppendUint64(nil, n)[:size]...)
}

// value: of a type, for which there is room at a place.
func (f *former) value(at int, t api.Type, v api.Val) {
	switch {
	case sizeOf(t) > 0:
		copy(f.b[at:at+sizeOf(t)], binary.LittleEndian.AppendUint64(nil, v.Num))
	case t.Lists > 0:
		t.Lists--
		f.list(at, t, v.Kids)
	case t.Kind == api.Struct:
		f.table(at, f.s.Structs[t.Ref].Fields, v.Kids)
	default:
		f.pad(0, 4)
		f.point(at)
		f.number(uint64(len(v.Bytes)), 4)
		f.b = append(f.b, v.Bytes...)
		if t.Kind == api.Text {
			f.b = append(f.b, 0)
		}
	}
}

func (f *former) list(at int, t api.Type, l []api.Val) {
	size := inlineOf(t)
	f.pad(4, max(4, size))
	f.point(at)
	f.number(uint64(len(l)), 4)
	first := len(f.b)
	f.b = append(f.b, make([]byte, size*len(l))...)
	for i, v := range l {
		f.value(first+i*size, t, v)
	}
}

func (f *former) table(at int, fields []api.Field, l []api.Val) {
	var here []int // the fields that are there, the widest first
	last := -1
	for i, v := range l {
		if !isDefault(fields[i], v) {
			here = append(here, i)
			last = i
		}
	}
	slices.SortStableFunc(here, func(a, b int) int { return inlineOf(fields[b].Type) - inlineOf(fields[a].Type) })
	size, widest := 4, 4
	places := make([]int, len(l))
	for _, i := range here {
		wide := inlineOf(fields[i].Type)
		for size%wide != 0 {
			size++
		}
		places[i] = size
		size += wide
		widest = max(widest, wide)
	}
	f.pad(0, 2)
	list := len(f.b)
	f.number(uint64(4+2*(last+1)), 2)
	f.number(uint64(size), 2)
	for _, place := range places[:last+1] {
		f.number(uint64(place), 2)
	}
	f.pad(0, widest)
	f.point(at)
	table := len(f.b)
	f.number(uint64(table-list), 4)
	f.b = append(f.b, make([]byte, size-4)...)
	for i, v := range l {
		if places[i] > 0 {
			f.value(table+places[i], fields[i].Type, v)
		}
	}
}

// maker makes schemas and values.
type maker struct {
	*rand.Rand
	s    api.Schema
	room int // how many more kids a value may have
	wide int // how long lists and bytes are, mostly
}

// schema: of up to 4 structs, that lead to each other.
func (m *maker) schema() {
	m.s = api.Schema{Enums: []api.Choice{{Name: "E", Names: []string{"a", "b", "c"}}, {Name: "F", Names: []string{"a"}}}}
	count := 1 + m.Intn(4)
	for i := range count {
		r := api.Record{Name: "S" + strconv.Itoa(i)}
		for k := range 1 + m.Intn(1<<m.Intn(5)) {
			f := api.Field{Name: "x" + strconv.Itoa(k), Type: api.Type{Kind: api.Kind(1 + m.Intn(17)), Lists: max(0, m.Intn(8)-4)}}
			if f.Type.Kind >= api.Struct {
				f.Type.Kind, f.Type.Ref = api.Struct, m.Intn(count)
			}
			if f.Type.Kind == api.Enum {
				f.Type.Ref = m.Intn(2)
			}
			if sizeOf(f.Type) > 0 {
				f.Def = m.number(f.Type)
			}
			r.Fields = append(r.Fields, f)
		}
		m.s.Structs = append(m.s.Structs, r)
	}
	m.s.Root = m.Intn(count)
}

// number: one of a type, often at an edge.
func (m *maker) number(t api.Type) uint64 {
	switch t.Kind {
	case api.Enum:
		return uint64(m.Intn(len(m.s.Enums[t.Ref].Names)))
	case api.Bool:
		return uint64(m.Intn(2))
	}
	n := m.Uint64()
	if m.Intn(2) == 0 {
		n = uint64(1)<<m.Intn(64)*uint64(m.Intn(2)) + uint64(m.Intn(3)) - 1
	}
	width := 8 * kindSizes[t.Kind]
	n = n << (64 - width) >> (64 - width)
	if api.I8 <= t.Kind && t.Kind <= api.I64 {
		return uint64(int64(n<<(64-width)) >> (64 - width))
	}
	return n
}

// text: so many bytes of UTF-8, or a few less.
func (m *maker) text(most int) string {
	var b strings.Builder
	for {
		x := []string{"a", "é", "€", "😀", "\x00", "z"}[m.Intn(6)]
		if b.Len()+len(x) > most {
			return b.String()
		}
		b.WriteString(x)
	}
}

// value: of a type, where it may be so deep.
func (m *maker) value(t api.Type, room int) api.Val {
	switch {
	case t.Lists > 0:
		t.Lists--
		count := m.Intn(1 + m.Intn(1+m.wide))
		if sizeOf(t) == 0 {
			count = m.Intn(5)
		}
		if room == 0 || t.Lists == 0 && t.Kind == api.Struct && room == 1 || m.room < count {
			return api.Val{}
		}
		m.room -= count
		var v api.Val
		for range count {
			if t.Lists == 0 && t.Kind == api.Struct {
				v.Kids = append(v.Kids, m.structure(t.Ref, room-1))
			} else {
				v.Kids = append(v.Kids, m.value(t, room-1))
			}
		}
		return v
	case t.Kind == api.Struct:
		if room == 0 || m.room <= 0 || m.Intn(6) == 0 {
			return api.Val{}
		}
		return m.structure(t.Ref, room)
	case t.Kind == api.Text:
		return raw(m.text(m.Intn(1 + m.Intn(1+m.wide))))
	case t.Kind == api.Data:
		b := make([]byte, m.Intn(1+m.Intn(1+m.wide)))
		m.Read(b)
		return api.Val{Bytes: b}
	}
	return api.Val{Num: m.number(t)}
}

// structure: one that is there; one field in four is its default.
func (m *maker) structure(rec, room int) api.Val {
	m.room--
	v := view.Default(m.s.Structs[rec])
	order := m.Perm(len(v.Kids)) // so that not always the first ones use up the room
	for _, i := range order {
		if m.Intn(4) > 0 {
			v.Kids[i] = m.value(m.s.Structs[rec].Fields[i].Type, room-1)
		}
	}
	return v
}

// differ: how long two messages are, and where they first aren't alike.
func differ(a, b string) string {
	at := 0
	for at < min(len(a), len(b)) && a[at] == b[at] {
		at++
	}
	return strconv.Itoa(len(a)) + " bytes, not " + strconv.Itoa(len(b)) + ", unlike from " + strconv.Itoa(at) + " on"
}

// check holds what Write answers of a value against the chapter: the form, and that it is too long.
func check(t *testing.T, s api.Schema, v api.Val, want string) (long bool) {
	t.Helper()
	b, e := flatwrite.Write(s, view.Of(v), wire.New(plenty))
	long = len(want) > api.MaxOutput
	switch {
	case long && (e != api.ErrLarge || b != nil):
		t.Fatalf("%v: %d bytes: error %d, %d bytes", s, len(want), e, len(b))
	case !long && (e != api.OK || string(b) != want):
		t.Fatalf("%v: error %d, %s", s, e, differ(string(b), want))
	case !long:
		wantBack(t, "a form", s, v, b)
	}
	return long
}

// checkBudget holds against it what Write answers with a smaller budget.
func (m *maker) checkBudget(t *testing.T, v api.Val) (out bool) {
	t.Helper()
	meter := wire.New(plenty)
	b, e := flatwrite.Write(m.s, view.Of(v), meter)
	taken := plenty - meter.Left()
	budget := m.Intn(2 + taken + taken/2)
	less, f := flatwrite.Write(m.s, view.Of(v), wire.New(budget))
	out = f == api.ErrBudget
	if out && (less != nil || budget >= taken) || !out && (f != e || string(less) != string(b)) {
		t.Fatalf("%v: error %d, with budget %d error %d, %s", m.s, e, budget, f, differ(string(less), string(b)))
	}
	return out
}

// checkWords holds against it what comes of the value's message in words: there and back is the one form.
func checkWords(t *testing.T, s api.Schema, v api.Val, form string) (there bool) {
	t.Helper()
	words, e := capwrite.Write(s, view.Of(v), wire.New(plenty))
	if e != api.OK || len(words) > api.MaxInput {
		return false
	}
	x, e := capread.Read(s, words, wire.New(plenty))
	if e != api.OK {
		t.Fatalf("%v: a message in words isn't read: error %d", s, e)
	}
	b, e := flatwrite.Write(s, x, wire.New(plenty))
	if len(form) <= api.MaxOutput && (e != api.OK || string(b) != form) || len(form) > api.MaxOutput && e != api.ErrLarge {
		t.Fatalf("%v: of a message in words: error %d, %s", s, e, differ(string(b), form))
	}
	if len(form) > api.MaxInput {
		return false
	}
	if x, e = flatread.Read(s, b, wire.New(plenty)); e != api.OK {
		t.Fatalf("%v: a form isn't read: error %d", s, e)
	}
	if back, e := capwrite.Write(s, x, wire.New(plenty)); e != api.OK || string(back) != string(words) {
		t.Fatalf("%v: back: error %d, %s", s, e, differ(string(back), string(words)))
	}
	return true
}

// deepOf: how many structs that are there, and lists that aren't empty, stand in one another.
func deepOf(v api.Val) int {
	deep := 0
	for _, kid := range v.Kids {
		deep = max(deep, deepOf(kid))
	}
	if v.Has || len(v.Kids) > 0 {
		deep++
	}
	return deep
}

// P11.1, P11.2, P3, P5, P8: values of many schemas.
func TestManyValues(t *testing.T) {
	m := &maker{Rand: rand.New(rand.NewSource(11))}
	good, deepest, long, unread, out, words := 0, 0, 0, 0, 0, 0
	for range 1500 {
		if m.schema(); !schema.Check(m.s) {
			t.Fatalf("no schema: %v", m.s)
		}
		for range 6 {
			m.room, m.wide = 30*(1+m.Intn(20)), 4<<m.Intn(8)
			if m.Intn(50) == 0 {
				m.room, m.wide = 1<<13, 1<<14
			}
			v := m.structure(m.s.Root, api.MaxNest)
			if !view.Fits(m.s, m.s.Root, v) {
				t.Fatalf("%v: a value doesn't fit", m.s)
			}
			form := formOf(m.s, v)
			switch {
			case check(t, m.s, v, form):
				long++
			case len(form) > api.MaxInput:
				unread++
			default:
				good++
				deepest += deepOf(v) / api.MaxNest
			}
			if m.checkBudget(t, v) {
				out++
			}
			if checkWords(t, m.s, v, form) {
				words++
			}
		}
	}
	if good < 5000 || deepest < 500 || long < 20 || unread < 20 || out < 1000 || words < 5000 {
		t.Errorf("too few: %d read back, %d of them just so deep, %d too long, %d too long to be read, %d without a budget, %d as words", good, deepest, long, unread, out, words)
	}
}

// spoilt: a message with a bit changed somewhere.
func (m *maker) spoilt(form string) []byte {
	b := []byte(form)
	at := m.Intn(8 * len(b))
	b[at/8] ^= 1 << (at % 8)
	return append(b, make([]byte, m.Intn(2)*m.Intn(100))...)
}

// P5: what is read of any message is written as its value is.
func TestWhatIsRead(t *testing.T) {
	m := &maker{Rand: rand.New(rand.NewSource(111))}
	read, others := 0, 0
	for range 1000 {
		m.schema()
		m.room, m.wide = 30, 16
		form := formOf(m.s, m.structure(m.s.Root, api.MaxNest))
		for range 30 {
			b := m.spoilt(form)
			x, e := flatread.Read(m.s, b, wire.New(plenty))
			if e != api.OK {
				continue
			}
			read++
			want := formOf(m.s, view.Tree(m.s, m.s.Root, x))
			got, e := flatwrite.Write(m.s, x, wire.New(plenty))
			if len(want) <= api.MaxOutput && (e != api.OK || string(got) != want) || len(want) > api.MaxOutput && e != api.ErrLarge {
				t.Fatalf("%v: %x: error %d, %s", m.s, b, e, differ(string(got), want))
			}
			if string(got) != string(b) {
				others++
			}
		}
	}
	if read < 7000 || others < 3000 {
		t.Errorf("too few: %d were read, %d of them in other forms", read, others)
	}
}
