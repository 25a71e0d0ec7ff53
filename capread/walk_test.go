package capread_test

import (
	"bytes"
	"encoding/binary"
	"math/rand"
	"strconv"
	"testing"

	"transom/api"
	"transom/capread"
	"transom/schema"
	"transom/view"
	"transom/wire"
)

// object is some words that stand together; links are the pointers among them.
type object struct {
	words []uint64
	links []link
	place int
}

// link is a pointer in a word of an object: its bits without the offset, to an object.
type link struct {
	word int
	bits uint64
	to   *object
}

// known is a value that has a pointer to an object already.
type known struct {
	t api.Type
	v api.Val
	l link
}

// maker makes schemas, and messages with what they say, of which one part in odd is odd. loose: what is made may be reached too often.
type maker struct {
	*rand.Rand
	s       api.Schema
	objects []*object
	known   []known
	odd     int
	loose   bool
}

// schema: of up to 4 structs, that lead to each other.
func (m *maker) schema() {
	m.s = api.Schema{Enums: []api.Choice{{Name: "E", Names: []string{"a", "b", "c"}}, {Name: "F", Names: []string{"a"}}}}
	count := 1 + m.Intn(4)
	for i := range count {
		r := api.Record{Name: "S" + strconv.Itoa(i)}
		for k := range 1 + m.Intn(7) {
			f := api.Field{Name: "x" + strconv.Itoa(k), Type: api.Type{Kind: api.Kind(1 + m.Intn(20)), Lists: max(0, m.Intn(8)-4)}}
			if f.Type.Kind >= api.Struct {
				f.Type.Kind, f.Type.Ref = api.Struct, m.Intn(count)
			}
			if f.Type.Kind == api.Enum {
				f.Type.Ref = m.Intn(2)
			}
			if widthOf(f.Type) > 0 {
				f.Def = m.number(f.Type)
			}
			r.Fields = append(r.Fields, f)
		}
		m.s.Structs = append(m.s.Structs, r)
	}
	m.s.Root = m.Intn(count)
}

// number: one of a type, often at an edge.
func (m *maker) number(t api.Type) uint64 {
	if t.Kind == api.Enum {
		return uint64(m.Intn(len(m.s.Enums[t.Ref].Names)))
	}
	n := m.Uint64()
	if m.Intn(2) == 0 {
		n = uint64(1)<<m.Intn(64)*uint64(m.Intn(2)) + uint64(m.Intn(3)) - 1
	}
	return signed(t, n)
}

// object: so many words, of 0 or of anything.
func (m *maker) object(words int) *object {
	o := &object{words: make([]uint64, words)}
	for i := range o.words {
		if m.Intn(3) == 0 {
			o.words[i] = m.Uint64()
		}
	}
	m.objects = append(m.objects, o)
	return o
}

// message: one of the root, mostly no deeper than so, and what it says.
func (m *maker) message(room int) ([]byte, api.Val) {
	m.objects, m.known, m.loose = nil, nil, false
	m.odd = 4 << m.Intn(4)
	root := &object{words: make([]uint64, 1)}
	v := m.newSub(root, 0, m.s.Root, room)
	places := 1
	m.Shuffle(len(m.objects), func(i, k int) { m.objects[i], m.objects[k] = m.objects[k], m.objects[i] })
	for _, o := range m.objects {
		o.place = places + max(0, m.Intn(12)-9)
		places = o.place + len(o.words)
	}
	words := make([]uint64, places+max(0, m.Intn(12)-9))
	for i := range words {
		words[i] = uint64(m.Intn(3)) * m.Uint64()
	}
	for _, o := range append(m.objects, root) {
		for _, l := range o.links {
			o.words[l.word] = l.bits | uint64(uint32(l.to.place-o.place-l.word-1)<<2)
			if o.words[l.word] == 0 {
				m.loose = true // a struct of nothing right behind: null
			}
		}
		copy(words[o.place:], o.words)
	}
	return message(words...), v
}

// pointer: a field or an element of a type, that stands in a word.
func (m *maker) pointer(o *object, word int, t api.Type, room int) api.Val {
	o.words[word] = 0
	deep := t.Lists > 0 || t.Kind == api.Struct
	if m.Intn(2*m.odd) == 0 || deep && room <= 0 {
		return api.Val{}
	}
	if m.Intn(2*m.odd) == 0 {
		for _, x := range m.known {
			if x.t == t && m.Intn(2) == 0 {
				m.loose = true
				o.links = append(o.links, link{word, x.l.bits, x.l.to})
				return x.v
			}
		}
	}
	var v api.Val
	switch {
	case t.Lists > 0:
		t.Lists--
		v = m.list(o, word, t, room)
		t.Lists++
	case t.Kind == api.Struct:
		v = m.newSub(o, word, t.Ref, room)
	default:
		v = m.bytes(o, word, t.Kind == api.Text)
	}
	m.known = append(m.known, known{t, v, o.links[len(o.links)-1]})
	return v
}

// newSub: a struct of its own, that a word is to point to.
func (m *maker) newSub(o *object, word, rec, room int) api.Val {
	nums, ptrs := m.shape(rec)
	to := m.object(nums + ptrs)
	v := m.structure(to, 0, nums, ptrs, rec, room)
	o.links = append(o.links, link{word, uint64(nums)<<32 | uint64(ptrs)<<48, to})
	return v
}

// shape: of a struct, as it should be, or smaller, or larger.
func (m *maker) shape(rec int) (nums, ptrs int) {
	bits := 0
	for _, f := range m.s.Structs[rec].Fields {
		bits += widthOf(f.Type)
		if widthOf(f.Type) == 0 {
			ptrs++
		}
	}
	nums = (bits + 63) / 64
	if m.Intn(m.odd) == 0 {
		nums = m.Intn(nums + 3)
	}
	if m.Intn(m.odd) == 0 {
		ptrs = m.Intn(ptrs + 3)
	}
	if nums+ptrs == 0 && m.Intn(3) > 0 {
		nums = 1
	}
	m.loose = m.loose || nums+ptrs == 0
	return nums, ptrs
}

// structure: fields, from a word of an object on.
func (m *maker) structure(o *object, at, nums, ptrs, rec, room int) api.Val {
	v := api.Val{Has: true}
	fields := m.s.Structs[rec].Fields
	one := m.Intn(len(fields)) // the others may be less deep, so that a value doesn't grow too wide
	for range 4 {
		if fields[one].Type.Kind != api.Struct {
			one = m.Intn(len(fields))
		}
	}
	for i, f := range fields {
		place, width := placeOf(fields, i), widthOf(f.Type)
		var kid api.Val
		switch {
		case width == 0 && place < ptrs:
			less := room - 1
			if i != one {
				less = min(less, m.Intn(3))
			}
			kid = m.pointer(o, at+nums+place, f.Type, less)
		case width > 0 && place+width <= 64*nums:
			kid.Num = m.number(f.Type)
			put(o.words[at:], place, width, kid.Num^f.Def)
		case width > 0:
			kid.Num = f.Def
		}
		v.Kids = append(v.Kids, kid)
	}
	return v
}

// list: of elements of a type, that a word is to point to.
func (m *maker) list(o *object, word int, t api.Type, room int) api.Val {
	count := m.Intn(5)
	if widthOf(t) > 0 && m.Intn(3) == 0 {
		count = m.Intn(200)
	}
	var v api.Val
	var to *object
	code := 6
	switch width := widthOf(t); {
	case width > 0:
		code = map[int]int{1: 1, 8: 2, 16: 3, 32: 4, 64: 5}[width]
		to = m.object((count*width + 63) / 64)
		for i := range count {
			n := m.number(t)
			put(to.words, i*width, width, n)
			v.Kids = append(v.Kids, api.Val{Num: n})
		}
	case t.Lists == 0 && t.Kind == api.Struct:
		nums, ptrs := m.shape(t.Ref)
		to = m.object(1 + count*(nums+ptrs))
		to.words[0] = tag(count, nums, ptrs)
		for i := range count {
			v.Kids = append(v.Kids, m.structure(to, 1+i*(nums+ptrs), nums, ptrs, t.Ref, room-1))
		}
		code, count = 7, count*(nums+ptrs)
	default:
		to = m.object(count)
		for i := range count {
			v.Kids = append(v.Kids, m.pointer(to, i, t, room-1))
		}
	}
	m.loose = m.loose || len(to.words) == 0
	o.links = append(o.links, link{word, ofList(0, code, count), to})
	return v
}

// bytes: that a word is to point to.
func (m *maker) bytes(o *object, word int, text bool) api.Val {
	l := []string{"", "a", "é€", "\x00", "abcdefg", "abcdefgh", "0123456789abcdef", "\xff", "a\xc3"}
	if text {
		l = l[:7]
	}
	told := l[m.Intn(len(l))]
	all := told
	if text {
		all += "\x00"
	}
	to := m.object((len(all) + 7) / 8)
	for i := range len(all) {
		put(to.words, 8*i, 8, uint64(all[i]))
	}
	m.loose = m.loose || all == ""
	o.links = append(o.links, link{word, ofList(0, 2, len(all)), to})
	return raw(told)
}

// spoil changes something in a message.
func (m *maker) spoil(b []byte) []byte {
	b = bytes.Clone(b)
	at := 8 * (1 + m.Intn(len(b)/8-1))
	word := binary.LittleEndian.Uint64(b[at:])
	switch m.Intn(8) {
	case 0, 1, 2:
		word ^= 1 << m.Intn(64)
	case 3:
		word = ofStruct(m.Intn(20)-10, m.Intn(4), m.Intn(4))
	case 4:
		word = ofList(m.Intn(20)-10, m.Intn(8), m.Intn(1<<m.Intn(8)))
	case 5:
		word += uint64(m.Intn(5)-2) << 2
	case 6:
		word = binary.LittleEndian.Uint64(b[8*m.Intn(len(b)/8):])
	case 7:
		switch m.Intn(4) {
		case 0:
			b = b[:8*(1+m.Intn(len(b)/8))]
		case 1:
			b = append(b, make([]byte, 8*m.Intn(5))...)
		case 2:
			b = b[:m.Intn(len(b))]
			return b
		}
		binary.LittleEndian.PutUint32(b[4:], uint32(len(b)/8-1))
		return b
	}
	binary.LittleEndian.PutUint64(b[at:], word)
	return b
}

// check holds what Read answers of a message against the chapter.
func (m *maker) check(t *testing.T, b []byte) (api.Val, bool) {
	want, ok := denoted(m.s, b)
	was := bytes.Clone(b)
	meter := wire.New(1000 + 100*(len(b)+8)*8) // what is enough of the shortest schema and request
	v, e := capread.Read(m.s, b, meter)
	switch {
	case !bytes.Equal(b, was):
		t.Fatalf("changed: %x, %x", was, b)
	case !ok && (e != api.ErrMalformed || v != nil):
		t.Fatalf("%v: %x: error %d, %v", m.s, b, e, v)
	case ok && (e != api.OK || !same(view.Tree(m.s, m.s.Root, v), want)):
		t.Fatalf("%v: %x: error %d, %v, not %v", m.s, b, e, v, want)
	}
	budget := m.Intn(1 + meter.Left())
	if m.Intn(2) == 0 {
		budget = m.Intn(50)
	}
	_, less := capread.Read(m.s, b, wire.New(budget))
	if less != e && less != api.ErrBudget {
		t.Fatalf("%v: %x: error %d, with budget %d error %d", m.s, b, e, budget, less)
	}
	return want, ok
}

// deepOf: how many structs that are there, and lists that aren't empty, stand in one another.
func deepOf(v api.Val) int {
	deep := 0
	for _, kid := range v.Kids {
		deep = max(deep, deepOf(kid))
	}
	if v.Has || len(v.Kids) > 0 {
		deep++
	}
	return deep
}

// P8.1, P3, P4, P8: messages of many schemas, as they are and with something changed.
func TestManyMessages(t *testing.T) {
	m := &maker{Rand: rand.New(rand.NewSource(8))}
	good, deepest, tooDeep, tooOften, spoilt, still := 0, 0, 0, 0, 0, 0
	for range 1500 {
		if m.schema(); !schema.Check(m.s) {
			t.Fatalf("no schema: %v", m.s)
		}
		for range 5 {
			b, want := m.message(1 + m.Intn(8) + m.Intn(8))
			got, ok := m.check(t, b)
			deep := deepOf(want)
			switch {
			case ok && same(got, want):
				good++
				deepest += deep / api.MaxNest
			case deep > api.MaxNest:
				tooDeep++
			case m.loose && !ok:
				tooOften++
			case !m.loose && len(b) <= api.MaxInput:
				t.Fatalf("%v: %x: %v, %v, not %v", m.s, b, ok, got, want)
			}
			for range 10 {
				if len(b) >= 16 {
					b = m.spoil(b)
				}
				if _, ok := m.check(t, b); ok {
					still++
				} else {
					spoilt++
				}
			}
		}
	}
	if good < 5000 || deepest < 40 || tooDeep < 50 || tooOften < 50 || spoilt < 10000 || still < 5000 {
		t.Errorf("too few: %d good, %d of them just so deep, %d too deep, %d reached too often, %d spoilt, %d spoilt that are some", good, deepest, tooDeep, tooOften, spoilt, still)
	}
}
