package capwrite_test

import (
	"math/rand"
	"strconv"
	"strings"
	"testing"

	"transom/api"
	"transom/capread"
	"transom/capwrite"
	"transom/schema"
	"transom/view"
	"transom/wire"
)

// P9.1, said once more apart from the program: what the one form of a value is, however long.

// object is what a pointer leads to: its words, and for each of them what it leads to if it is a pointer that isn't null; bits are its own pointer's but the offset.
type object struct {
	words []uint64
	leads []*object
	bits  uint64
}

// flat: an object, and behind it all that comes of it.
func (o *object) flat() []uint64 {
	all := append([]uint64(nil), o.words...)
	for i, to := range o.leads {
		if to != nil {
			all[i] = to.bits + 4*uint64(len(all)-i-1)
			all = append(all, to.flat()...)
		}
	}
	return all
}

// bitWidths: of numbers.
var bitWidths = map[api.Kind]int{api.Bool: 1, api.I8: 8, api.U8: 8, api.I16: 16, api.U16: 16, api.Enum: 16, api.I32: 32, api.U32: 32, api.I64: 64, api.U64: 64}

// widthOf: a number's bits; 0: it is none.
func widthOf(t api.Type) int {
	if t.Lists > 0 {
		return 0
	}
	return bitWidths[t.Kind]
}

// packed: bits of 0 and 1, as words.
func packed(bits []byte) []uint64 {
	words := make([]uint64, (len(bits)+63)/64)
	for i, bit := range bits {
		words[i/64] += uint64(bit) << (i % 64)
	}
	return words
}

// withBits: bits, and behind them the lowest ones of a number.
func withBits(bits []byte, n uint64, width int) []byte {
	for range width {
		bits = append(bits, byte(n%2))
		n /= 2
	}
	return bits
}

// structObject: a struct that is there.
func structObject(s api.Schema, rec int, v api.Val) *object {
	var bits []byte
	fields := s.Structs[rec].Fields
	for _, width := range []int{64, 32, 16, 8, 1} {
		for i, f := range fields {
			if widthOf(f.Type) == width {
				bits = withBits(bits, v.Kids[i].Num^f.Def, width)
			}
		}
	}
	o := &object{words: packed(bits)}
	nums := len(o.words)
	o.leads = make([]*object, nums)
	for i, f := range fields {
		if widthOf(f.Type) == 0 {
			o.words = append(o.words, 0)
			o.leads = append(o.leads, objectOf(s, f.Type, v.Kids[i]))
		}
	}
	o.bits = uint64(nums)*(1<<32) + uint64(len(o.words)-nums)*(1<<48)
	return o
}

// objectOf: what a pointer leads to; nil: it is null.
func objectOf(s api.Schema, t api.Type, v api.Val) *object {
	switch {
	case t.Lists == 0 && t.Kind == api.Struct:
		if !v.Has {
			return nil
		}
		return structObject(s, t.Ref, v)
	case t.Lists == 0 && len(v.Bytes) > 0:
		all := string(v.Bytes) + strings.Repeat("\x00", map[api.Kind]int{api.Text: 1}[t.Kind])
		bits := make([]byte, 0, 8*len(all))
		for _, c := range []byte(all) {
			bits = withBits(bits, uint64(c), 8)
		}
		return listObject(2, len(all), packed(bits))
	case len(v.Kids) == 0:
		return nil
	}
	t.Lists--
	width := widthOf(t)
	switch {
	case width > 0:
		bits := make([]byte, 0, width*len(v.Kids))
		for _, kid := range v.Kids {
			bits = withBits(bits, kid.Num, width)
		}
		return listObject(map[int]int{1: 1, 8: 2, 16: 3, 32: 4, 64: 5}[width], len(v.Kids), packed(bits))
	case t.Lists == 0 && t.Kind == api.Struct:
		o := &object{words: make([]uint64, 1), leads: make([]*object, 1)}
		for _, kid := range v.Kids {
			x := structObject(s, t.Ref, kid)
			o.words, o.leads = append(o.words, x.words...), append(o.leads, x.leads...)
			o.words[0] = x.bits + 4*uint64(len(v.Kids))
		}
		o.bits = listObject(7, len(o.words)-1, nil).bits
		return o
	}
	o := listObject(6, len(v.Kids), make([]uint64, len(v.Kids)))
	for i, kid := range v.Kids {
		o.leads[i] = objectOf(s, t, kid)
	}
	return o
}

// listObject: a list of a code, a count and words.
func listObject(code, count int, words []uint64) *object {
	return &object{words: words, leads: make([]*object, len(words)), bits: 1 + uint64(code)*(1<<32) + uint64(count)*(1<<35)}
}

// formOf: the one form of a value of the root.
func formOf(s api.Schema, v api.Val) string {
	o := &object{words: make([]uint64, 1), leads: []*object{structObject(s, s.Root, v)}}
	return message(o.flat()...)
}

// maker makes schemas and values.
type maker struct {
	*rand.Rand
	s    api.Schema
	room int // how many more kids a value may have
	wide int // how long lists and bytes are, mostly
}

// schema: of up to 4 structs, that lead to each other.
func (m *maker) schema() {
	m.s = api.Schema{Enums: []api.Choice{{Name: "E", Names: []string{"a", "b", "c"}}, {Name: "F", Names: []string{"a"}}}}
	count := 1 + m.Intn(4)
	for i := range count {
		r := api.Record{Name: "S" + strconv.Itoa(i)}
		for k := range 1 + m.Intn(1<<m.Intn(5)) {
			f := api.Field{Name: "x" + strconv.Itoa(k), Type: api.Type{Kind: api.Kind(1 + m.Intn(17)), Lists: max(0, m.Intn(8)-4)}}
			if f.Type.Kind >= api.Struct {
				f.Type.Kind, f.Type.Ref = api.Struct, m.Intn(count)
			}
			if f.Type.Kind == api.Enum {
				f.Type.Ref = m.Intn(2)
			}
			if widthOf(f.Type) > 0 {
				f.Def = m.number(f.Type)
			}
			r.Fields = append(r.Fields, f)
		}
		m.s.Structs = append(m.s.Structs, r)
	}
	m.s.Root = m.Intn(count)
}

// number: one of a type, often at an edge.
func (m *maker) number(t api.Type) uint64 {
	if t.Kind == api.Enum {
		return uint64(m.Intn(len(m.s.Enums[t.Ref].Names)))
	}
	n := m.Uint64()
	if m.Intn(2) == 0 {
		n = uint64(1)<<m.Intn(64)*uint64(m.Intn(2)) + uint64(m.Intn(3)) - 1
	}
	width := bitWidths[t.Kind]
	n = n << (64 - width) >> (64 - width)
	if api.I8 <= t.Kind && t.Kind <= api.I64 {
		return uint64(int64(n<<(64-width)) >> (64 - width))
	}
	return n
}

// text: so many bytes of UTF-8, or a few less.
func (m *maker) text(most int) string {
	var b strings.Builder
	for {
		x := []string{"a", "é", "€", "😀", "\x00", "z"}[m.Intn(6)]
		if b.Len()+len(x) > most {
			return b.String()
		}
		b.WriteString(x)
	}
}

// value: of a type, where it may be so deep.
func (m *maker) value(t api.Type, room int) api.Val {
	switch {
	case t.Lists > 0:
		t.Lists--
		count := m.Intn(1 + m.Intn(1+m.wide))
		if t.Lists > 0 || widthOf(t) == 0 {
			count = m.Intn(5)
		}
		if room == 0 || t.Lists == 0 && t.Kind == api.Struct && room == 1 || m.room < count {
			return api.Val{}
		}
		m.room -= count
		var v api.Val
		for range count {
			if t.Lists == 0 && t.Kind == api.Struct {
				v.Kids = append(v.Kids, m.structure(t.Ref, room-1))
			} else {
				v.Kids = append(v.Kids, m.value(t, room-1))
			}
		}
		return v
	case t.Kind == api.Struct:
		if room == 0 || m.room <= 0 || m.Intn(6) == 0 {
			return api.Val{}
		}
		return m.structure(t.Ref, room)
	case t.Kind == api.Text:
		return raw(m.text(m.Intn(1 + m.Intn(1+m.wide))))
	case t.Kind == api.Data:
		b := make([]byte, m.Intn(1+m.Intn(1+m.wide)))
		m.Read(b)
		return api.Val{Bytes: b}
	}
	return api.Val{Num: m.number(t)}
}

// structure: one that is there; one field in four is its default.
func (m *maker) structure(rec, room int) api.Val {
	m.room--
	v := view.Default(m.s.Structs[rec])
	order := m.Perm(len(v.Kids)) // so that not always the first ones use up the room
	for _, i := range order {
		if m.Intn(4) > 0 {
			v.Kids[i] = m.value(m.s.Structs[rec].Fields[i].Type, room-1)
		}
	}
	return v
}

// differ: how long two messages are, and where they first aren't alike.
func differ(a, b string) string {
	at := 0
	for at < min(len(a), len(b)) && a[at] == b[at] {
		at++
	}
	return strconv.Itoa(len(a)) + " bytes, not " + strconv.Itoa(len(b)) + ", unlike from " + strconv.Itoa(at) + " on"
}

// check holds what Write answers of a value against the chapter: the form, and that it is too long.
func check(t *testing.T, s api.Schema, v api.Val, want string) (long bool) {
	t.Helper()
	b, e := capwrite.Write(s, view.Of(v), wire.New(plenty))
	long = len(want) > api.MaxOutput
	switch {
	case long && (e != api.ErrLarge || b != nil):
		t.Fatalf("%v: %d bytes: error %d, %d bytes", s, len(want), e, len(b))
	case !long && (e != api.OK || string(b) != want):
		t.Fatalf("%v: error %d, %s", s, e, differ(string(b), want))
	case !long:
		wantBack(t, "a form", s, v, b)
	}
	return long
}

// checkBudget holds against it what Write answers with a smaller budget.
func (m *maker) checkBudget(t *testing.T, v api.Val) (out bool) {
	t.Helper()
	meter := wire.New(plenty)
	b, e := capwrite.Write(m.s, view.Of(v), meter)
	taken := plenty - meter.Left()
	budget := m.Intn(2 + taken + taken/2)
	less, f := capwrite.Write(m.s, view.Of(v), wire.New(budget))
	out = f == api.ErrBudget
	if out && (less != nil || budget >= taken) || !out && (f != e || string(less) != string(b)) {
		t.Fatalf("%v: error %d, with budget %d error %d, %s", m.s, e, budget, f, differ(string(less), string(b)))
	}
	return out
}

// deepOf: how many structs that are there, and lists that aren't empty, stand in one another.
func deepOf(v api.Val) int {
	deep := 0
	for _, kid := range v.Kids {
		deep = max(deep, deepOf(kid))
	}
	if v.Has || len(v.Kids) > 0 {
		deep++
	}
	return deep
}

// P9.1, P9.2, P3, P5, P8: values of many schemas.
func TestManyValues(t *testing.T) {
	m := &maker{Rand: rand.New(rand.NewSource(9))}
	good, deepest, long, unread, out := 0, 0, 0, 0, 0
	for range 1500 {
		if m.schema(); !schema.Check(m.s) {
			t.Fatalf("no schema: %v", m.s)
		}
		for range 6 {
			m.room, m.wide = 30*(1+m.Intn(20)), 4<<m.Intn(8)
			if m.Intn(50) == 0 {
				m.room, m.wide = 1<<13, 1<<14
			}
			v := m.structure(m.s.Root, api.MaxNest)
			if !view.Fits(m.s, m.s.Root, v) {
				t.Fatalf("%v: a value doesn't fit", m.s)
			}
			form := formOf(m.s, v)
			switch {
			case check(t, m.s, v, form):
				long++
			case len(form) > api.MaxInput:
				unread++
			default:
				good++
				deepest += deepOf(v) / api.MaxNest
			}
			if m.checkBudget(t, v) {
				out++
			}
		}
	}
	if good < 5000 || deepest < 500 || long < 20 || unread < 20 || out < 1000 {
		t.Errorf("too few: %d read back, %d of them just so deep, %d too long, %d too long to be read, %d without a budget", good, deepest, long, unread, out)
	}
}

// spoilt: a message with a bit changed somewhere behind its head.
func (m *maker) spoilt(form string) []byte {
	b := []byte(form)
	at := 64 + m.Intn(8*len(b)-64)
	b[at/8] ^= 1 << (at % 8)
	return b
}

// P5: what is read of any message is written as its value is.
func TestWhatIsRead(t *testing.T) {
	m := &maker{Rand: rand.New(rand.NewSource(99))}
	read, others := 0, 0
	for range 1000 {
		m.schema()
		m.room, m.wide = 30, 16
		form := formOf(m.s, m.structure(m.s.Root, api.MaxNest))
		for range 30 {
			b := m.spoilt(form)
			x, e := capread.Read(m.s, b, wire.New(plenty))
			if e != api.OK {
				continue
			}
			read++
			want := formOf(m.s, view.Tree(m.s, m.s.Root, x))
			got, e := capwrite.Write(m.s, x, wire.New(plenty))
			if len(want) <= api.MaxOutput && (e != api.OK || string(got) != want) || len(want) > api.MaxOutput && e != api.ErrLarge {
				t.Fatalf("%v: %x: error %d, %s", m.s, b, e, differ(string(got), want))
			}
			if string(got) != string(b) {
				others++
			}
		}
	}
	if read < 7000 || others < 3000 {
		t.Errorf("too few: %d were read, %d of them in other forms", read, others)
	}
}
