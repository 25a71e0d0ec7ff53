package capread

import (
	"transom/api"
	"transom/layout"
	"transom/sorts"
	"transom/wire"
)

// A message has a head: 4 bytes 0, and 4 bytes that tell how many words stand behind it.
const (
	headPart = 4
	head     = 2 * headPart
	wordSize = 8
	wordBits = 64
)

// wordsOf: a message's words; false: it is none.
func wordsOf(b []byte) ([]byte, bool) {
	zero, _ := wire.Load(b, 0, headPart)
	count, ok := wire.Load(b, headPart, headPart)
	size := wordSize * int(count)
	if !ok || zero != 0 || count == 0 || len(b) > api.MaxInput || len(b) != head+size {
		return nil, false
	}
	return wire.Part(b, head, size)
}

// message is what all views of a message share. Of the schema it holds what is needed in memory of its own, since only the bytes may be kept.
type message struct {
	words   []byte
	count   int
	structs [][]field
	enums   []int // how many values each has
	codes   map[int]int
}

// field is a struct's field: its first bit among the numbers, or its place among the pointers.
type field struct {
	t   api.Type
	at  int
	def uint64
}

// newMessage: words, of a schema.
func newMessage(s api.Schema, words []byte) *message {
	m := &message{words: words, count: len(words) / wordSize, codes: codes()}
	for _, r := range s.Structs {
		at := layout.Words(r).At
		fields := make([]field, len(r.Fields))
		for i, f := range r.Fields {
			fields[i] = field{t: f.Type, at: at[i], def: f.Def}
		}
		m.structs = append(m.structs, fields)
	}
	for _, c := range s.Enums {
		m.enums = append(m.enums, len(c.Names))
	}
	return m
}

// fields: a struct's; none, if there is no such struct.
func (m *message) fields(rec int) []field {
	if rec < 0 || rec >= len(m.structs) {
		return nil
	}
	return m.structs[rec]
}

// kid is a field, or an element: a number's first bit among all bits, or a pointer's word; or it isn't there, and is its default.
type kid struct {
	t     api.Type
	at    int
	def   uint64
	there bool
}

// number: a kid's that is one.
func (m *message) number(k kid) uint64 {
	if !k.there {
		return k.def
	}
	n := m.bits(k.at, layout.Bits(k.t.Kind)) ^ k.def
	if wire.Sign(k.t.Kind) {
		return wire.Signed(n, wire.Size(k.t.Kind))
	}
	return n
}

// bits: so many as a number has, from one on.
func (m *message) bits(at, width int) uint64 {
	const byteBits = 8
	if width == 1 {
		n, _ := wire.Load(m.words, at/byteBits, 1)
		return n >> (at % byteBits) & 1
	}
	n, _ := wire.Load(m.words, at/byteBits, width/byteBits)
	return n
}

// bytes: those of a type to which a pointer leads, UTF-8 or not; false: it leads to none.
func (m *message) bytes(p pointer, t api.Type) ([]byte, bool) {
	if !p.list || p.code != bytesCode {
		return nil, false
	}
	b, ok := wire.Part(m.words, wordSize*p.at, p.count)
	if !ok || t.Kind == api.Data {
		return b, ok
	}
	last := len(b) - 1
	if last < 0 || b[last] != 0 {
		return nil, false
	}
	return wire.Part(b, 0, last)
}

// items: the list of elements of a type to which a pointer leads; false: it leads to none.
func (m *message) items(p pointer, t api.Type) (list, bool) {
	if !p.list || !m.holds(p.code, t) {
		return list{}, false
	}
	l := list{message: m, t: t, at: p.at, count: p.count}
	if p.code != structsCode {
		return l, true
	}
	tag, ok := wire.Load(m.words, wordSize*p.at, wordSize)
	l.at++
	l.count = elements(tag)
	l.shape = shapeOf(tag)
	if !ok || kindOf(tag) != aStruct || l.count >= mostElements || l.count*l.size() != p.count {
		return list{}, false
	}
	return l, true
}

// holds: are a list's elements, by its code, of a type?
func (m *message) holds(code int, t api.Type) bool {
	switch sorts.Of(t) {
	case sorts.Number:
		return code != pointersCode && m.codes[code] == layout.Bits(t.Kind)
	case sorts.Struct:
		return code == structsCode
	}
	return code == pointersCode
}
