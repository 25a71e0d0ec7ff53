package flatread_test

import (
	"bytes"
	"encoding/binary"
	"math/rand"
	"strconv"
	"testing"

	"transom/api"
	"transom/flatread"
	"transom/schema"
	"transom/view"
	"transom/wire"
)

// object is some bytes that stand together; links are the places in it that tell where others stand; above counts those that point to it and have no place yet.
type object struct {
	b           []byte
	links       []link
	above       int
	from, place int // it stands from some place on
}

// link is 4 bytes of an object that point to another one, or that tell a table's list.
type link struct {
	at     int
	to     *object
	ofList bool
}

// known is a value that an object is of already, and how many bytes it reaches.
type known struct {
	t       api.Type
	v       api.Val
	to      *object
	reached int
}

// maker makes schemas, and messages with what they say, of which one part in odd is odd; reached: how many bytes a message reaches.
type maker struct {
	*rand.Rand
	s       api.Schema
	objects []*object
	known   []known
	odd     int
	reached int
	b       []byte
	sure    []bool // which bytes stay as they are
}

// schema: of up to 4 structs, that lead to each other.
func (m *maker) schema() {
	m.s = api.Schema{Enums: []api.Choice{{Name: "E", Names: []string{"a", "b", "c"}}, {Name: "F", Names: []string{"a"}}}}
	count := 1 + m.Intn(4)
	for i := range count {
		r := api.Record{Name: "S" + strconv.Itoa(i)}
		for k := range 1 + m.Intn(7) {
			f := api.Field{Name: "x" + strconv.Itoa(k), Type: api.Type{Kind: api.Kind(1 + m.Intn(20)), Lists: max(0, m.Intn(8)-4)}}
			if f.Type.Kind >= api.Struct {
				f.Type.Kind, f.Type.Ref = api.Struct, m.Intn(count)
			}
			if f.Type.Kind == api.Enum {
				f.Type.Ref = m.Intn(2)
			}
			if sizeOf(f.Type) > 0 {
				f.Def = m.number(f.Type)
			}
			r.Fields = append(r.Fields, f)
		}
		m.s.Structs = append(m.s.Structs, r)
	}
	m.s.Root = m.Intn(count)
}

// number: one of a type, often at an edge.
func (m *maker) number(t api.Type) uint64 {
	switch t.Kind {
	case api.Enum:
		return uint64(m.Intn(len(m.s.Enums[t.Ref].Names)))
	case api.Bool:
		return uint64(m.Intn(2))
	}
	n := m.Uint64()
	if m.Intn(2) == 0 {
		n = uint64(1)<<m.Intn(64)*uint64(m.Intn(2)) + uint64(m.Intn(3)) - 1
	}
	return signed(t, n)
}

// object: of so many bytes, of 0 or of anything.
func (m *maker) object(size int) *object {
	o := &object{b: m.junk(size)}
	m.objects = append(m.objects, o)
	return o
}

// junk: bytes that mean nothing.
func (m *maker) junk(size int) []byte {
	b := make([]byte, size)
	for i := range b {
		b[i] = byte(m.Intn(3) * m.Intn(256))
	}
	return b
}

// put: a number's lowest bytes.
func put(b []byte, at, size int, n uint64) {
	for i := range size {
		b[at+i] = byte(n >> (8 * i))
	}
}

// message: one of the root, mostly no deeper than so, what it says, and whether it is as long as what it reaches.
func (m *maker) message(room int) ([]byte, api.Val, bool) {
	m.objects, m.known, m.reached = nil, nil, 0
	m.odd = 4 << m.Intn(4)
	root := m.object(4)
	v, to := m.table(m.s.Root, room)
	m.link(root, link{at: 0, to: to})
	m.lay(root)
	switch lack := m.reached - len(m.b); m.Intn(4) {
	case 0:
		m.add(m.junk(max(0, lack)))
	case 1:
		m.add(m.junk(max(0, lack-1)))
	case 2:
		m.add(m.junk(max(0, lack+m.Intn(5))))
	}
	return m.b, v, m.reached <= len(m.b)
}

// link: from an object to another one.
func (m *maker) link(o *object, l link) {
	o.links = append(o.links, l)
	if !l.ofList {
		l.to.above++
	}
}

// lay gives each object a place, behind all that point to it, the root first.
func (m *maker) lay(root *object) {
	m.b, m.sure = nil, nil
	m.place(root, 0)
	left := m.objects[1:]
	for len(left) > 0 {
		i := m.Intn(len(left))
		o := left[i]
		if o.above > 0 {
			continue
		}
		left = append(left[:i:i], left[i+1:]...)
		if at, ok := m.within(o); ok {
			m.place(o, at)
		} else {
			m.add(m.junk(max(0, m.Intn(8)-4)))
			m.place(o, len(m.b))
		}
	}
	for _, o := range m.objects {
		for _, l := range o.links {
			n := l.to.place - o.place - l.at
			if l.ofList {
				n = -n
			}
			put(m.b, o.place+l.at, 4, uint64(n))
		}
	}
}

// add: bytes at the message's end.
func (m *maker) add(b []byte) {
	m.b = append(m.b, b...)
	for range b {
		m.sure = append(m.sure, true)
	}
}

// place gives an object a place: at the message's end, or where its bytes stand already.
func (m *maker) place(o *object, at int) {
	if at == len(m.b) {
		m.add(o.b)
	}
	o.place = at
	for _, l := range o.links {
		for i := range 4 {
			m.sure[at+l.at+i] = false
		}
		if !l.ofList {
			l.to.above--
			l.to.from = max(l.to.from, at+l.at)
		}
	}
}

// within: a place where an object's bytes stand already, sometimes.
func (m *maker) within(o *object) (int, bool) {
	if len(o.links) > 0 || m.Intn(2) > 0 {
		return 0, false
	}
	for at := o.from; at+len(o.b) < len(m.b); at++ {
		sure := bytes.Equal(m.b[at:at+len(o.b)], o.b)
		for i := range o.b {
			sure = sure && m.sure[at+i]
		}
		if sure {
			return at, true
		}
	}
	return 0, false
}

// value: of a type, that stands at a place of an object.
func (m *maker) value(o *object, at int, t api.Type, room int) api.Val {
	if size := sizeOf(t); size > 0 {
		n := m.number(t)
		put(o.b, at, size, n)
		return api.Val{Num: n}
	}
	if m.Intn(m.odd) == 0 {
		for _, x := range m.known {
			if x.t == t && m.Intn(2) == 0 {
				m.link(o, link{at: at, to: x.to})
				m.reached += x.reached
				return x.v
			}
		}
	}
	was := m.reached
	var v api.Val
	var to *object
	switch {
	case t.Lists > 0:
		t.Lists--
		v, to = m.list(t, room)
		t.Lists++
	case t.Kind == api.Struct:
		v, to = m.table(t.Ref, room)
	default:
		v, to = m.bytes(t.Kind == api.Text)
	}
	m.link(o, link{at: at, to: to})
	m.known = append(m.known, known{t, v, to, m.reached - was})
	return v
}

// table: a struct, and its list.
func (m *maker) table(rec, room int) (api.Val, *object) {
	fields := m.s.Structs[rec].Fields
	one := m.Intn(len(fields)) // the others may be less deep, so that a value doesn't grow too wide
	for range 4 {
		if fields[one].Type.Kind != api.Struct {
			one = m.Intn(len(fields))
		}
	}
	places := make([]int, len(fields))
	size := 4
	for _, i := range m.Perm(len(fields)) {
		deep := fields[i].Type.Kind == api.Struct
		if m.Intn(m.odd) == 0 || deep && room <= 1 || deep && i != one && m.Intn(3) > 0 {
			continue
		}
		places[i] = size + max(0, m.Intn(6)-4)
		size = places[i] + max(sizeOf(fields[i].Type), 4*pointing(fields[i].Type))
	}
	size += max(0, m.Intn(6)-4)
	o, list := m.object(size), m.list16(places, size)
	m.link(o, link{at: 0, to: list, ofList: true})
	m.reached += size + len(list.b)
	v := api.Val{Has: true}
	for i, f := range fields {
		kid := api.Val{Num: f.Def}
		if places[i] > 0 {
			less := room - 1
			if i != one {
				less = min(less, m.Intn(3))
			}
			kid = m.value(o, places[i], f.Type, less)
		}
		v.Kids = append(v.Kids, kid)
	}
	return v, o
}

// list16: a table's list, not always longer than need be.
func (m *maker) list16(places []int, size int) *object {
	all := append(append([]int(nil), places...), make([]int, 3)...)
	long := len(places)
	for long > 0 && places[long-1] == 0 && m.Intn(4) > 0 {
		long--
	}
	if long == len(places) && m.Intn(m.odd) == 0 {
		long += m.Intn(4)
		for i := len(places); i < long; i++ {
			all[i] = m.Intn(1 << 16)
		}
	}
	o := m.object(4 + 2*long)
	put(o.b, 0, 2, uint64(len(o.b)))
	put(o.b, 2, 2, uint64(size))
	for i, place := range all[:long] {
		put(o.b, 4+2*i, 2, uint64(place))
	}
	return o
}

// list: of elements of a type.
func (m *maker) list(t api.Type, room int) (api.Val, *object) {
	count := m.Intn(4)
	if sizeOf(t) > 0 && m.Intn(3) == 0 {
		count = m.Intn(50)
	}
	if room <= 0 || t.Kind == api.Struct && room <= 1 {
		count = 0
	}
	size := max(sizeOf(t), 4*pointing(t))
	o := m.object(4 + count*size)
	put(o.b, 0, 4, uint64(count))
	m.reached += len(o.b)
	var v api.Val
	for i := range count {
		v.Kids = append(v.Kids, m.value(o, 4+i*size, t, room-1))
	}
	return v, o
}

// bytes: of a text, or not.
func (m *maker) bytes(text bool) (api.Val, *object) {
	l := []string{"", "a", "é€", "\x00", "abcdefg", "0123456789abcdef", "\xff", "a\xc3"}
	if text {
		l = l[:6]
	}
	told := l[m.Intn(len(l))]
	o := m.object(4)
	put(o.b, 0, 4, uint64(len(told)))
	o.b = append(o.b, told...)
	if text {
		o.b = append(o.b, 0)
	}
	m.reached += len(o.b)
	return raw(told), o
}

// spoil changes something in a message.
func (m *maker) spoil(b []byte) []byte {
	b = bytes.Clone(b)
	at := m.Intn(len(b) - 3)
	word := binary.LittleEndian.Uint32(b[at:])
	switch m.Intn(8) {
	case 0, 1:
		word ^= 1 << m.Intn(32)
	case 2:
		word ^= 1 << m.Intn(8)
	case 3:
		word = uint32(m.Intn(len(b)))
	case 4:
		word = uint32(m.Intn(20) - 10)
	case 5:
		word += uint32(m.Intn(9) - 4)
	case 6:
		word = binary.LittleEndian.Uint32(b[m.Intn(len(b)-3):])
	case 7:
		switch m.Intn(4) {
		case 0:
			return b[:m.Intn(len(b))]
		case 1:
			return b[:len(b)-m.Intn(4)]
		case 2:
			return append(b, m.junk(m.Intn(20))...)
		}
		put(b, at, 2, uint64(m.Intn(20)))
		return b
	}
	binary.LittleEndian.PutUint32(b[at:], word)
	return b
}

// check holds what Read answers of a message against the chapter.
func (m *maker) check(t *testing.T, b []byte) (api.Val, bool) {
	want, ok := denoted(m.s, b)
	was := bytes.Clone(b)
	meter := wire.New(1000 + 100*(len(b)+8)*8) // what is enough of the shortest schema and request
	v, e := flatread.Read(m.s, b, meter)
	switch {
	case !bytes.Equal(b, was):
		t.Fatalf("changed: %x, %x", was, b)
	case !ok && (e != api.ErrMalformed || v != nil):
		t.Fatalf("%v: %x: error %d, %v", m.s, b, e, v)
	case ok && (e != api.OK || !same(view.Tree(m.s, m.s.Root, v), want)):
		t.Fatalf("%v: %x: error %d, %v, not %v", m.s, b, e, v, want)
	}
	budget := m.Intn(1 + meter.Left())
	if m.Intn(2) == 0 {
		budget = m.Intn(50)
	}
	_, less := flatread.Read(m.s, b, wire.New(budget))
	if less != e && less != api.ErrBudget {
		t.Fatalf("%v: %x: error %d, with budget %d error %d", m.s, b, e, budget, less)
	}
	return want, ok
}

// deepOf: how many structs that are there, and lists that aren't empty, stand in one another.
func deepOf(v api.Val) int {
	deep := 0
	for _, kid := range v.Kids {
		deep = max(deep, deepOf(kid))
	}
	if v.Has || len(v.Kids) > 0 {
		deep++
	}
	return deep
}

// P10.1, P3, P4, P8: messages of many schemas, as they are and with something changed.
func TestManyMessages(t *testing.T) {
	m := &maker{Rand: rand.New(rand.NewSource(10))}
	good, deepest, just, tooDeep, tooOften, spoilt, still := 0, 0, 0, 0, 0, 0, 0
	for range 1500 {
		if m.schema(); !schema.Check(m.s) {
			t.Fatalf("no schema: %v", m.s)
		}
		for range 5 {
			b, want, reaches := m.message(1 + m.Intn(8) + m.Intn(8))
			got, ok := m.check(t, b)
			deep := deepOf(want)
			if ok != (deep <= api.MaxNest && reaches && len(b) <= api.MaxInput) || ok && !same(got, want) {
				t.Fatalf("%v: %x: %v, %v, not %v", m.s, b, ok, got, want)
			}
			switch {
			case ok:
				good++
				deepest += deep / api.MaxNest
				if m.reached == len(b) {
					just++
				}
			case !reaches:
				tooOften++
			case deep > api.MaxNest:
				tooDeep++
			}
			was := b
			for range 10 {
				if m.Intn(2) == 0 || len(b) < 4 {
					b = was
				}
				b = m.spoil(b)
				if _, ok := m.check(t, b); ok {
					still++
				} else {
					spoilt++
				}
			}
		}
	}
	if good < 5000 || deepest < 40 || just < 300 || tooDeep < 50 || tooOften < 500 || spoilt < 10000 || still < 5000 {
		t.Errorf("too few: %d good, %d of them just so deep, %d that reach just so much, %d too deep, %d reached too often, %d spoilt, %d spoilt that are some", good, deepest, just, tooDeep, tooOften, spoilt, still)
	}
}
