package flatread

import (
	"transom/api"
	"transom/layout"
	"transom/sorts"
	"transom/wire"
)

// long: the bytes of a place that points, and of a count.
const long = 4

// message is what all views of a message share. Of the schema it holds what is needed in memory of its own, since only the bytes may be kept.
type message struct {
	b       []byte
	structs [][]field
	enums   []int // how many values each has
}

// field is a struct's field: how many bytes it has within a table.
type field struct {
	t    api.Type
	size int
	def  uint64
}

// newMessage: bytes, of a schema.
func newMessage(s api.Schema, b []byte) *message {
	m := &message{b: b}
	for _, r := range s.Structs {
		fields := make([]field, len(r.Fields))
		for i, f := range r.Fields {
			fields[i] = field{t: f.Type, size: layout.Inline(f), def: f.Def}
		}
		m.structs = append(m.structs, fields)
	}
	for _, c := range s.Enums {
		m.enums = append(m.enums, len(c.Names))
	}
	return m
}

// fields: a struct's; none, if there is no such struct.
func (m *message) fields(rec int) []field {
	if rec < 0 || rec >= len(m.structs) {
		return nil
	}
	return m.structs[rec]
}

// kid is a field, or an element, that stands at a place; or it isn't there, and is its default.
type kid struct {
	t     api.Type
	at    int
	def   uint64
	there bool
}

// number: a kid's that is one.
func (m *message) number(k kid) uint64 {
	if !k.there {
		return k.def
	}
	size := wire.Size(k.t.Kind)
	n, _ := wire.Load(m.b, k.at, size)
	if wire.Sign(k.t.Kind) {
		return wire.Signed(n, size)
	}
	return n
}

// target: the place to which a kid points; false: it isn't there, or points to none of the message.
func (m *message) target(k kid) (int, bool) {
	if !k.there {
		return 0, false
	}
	n, ok := wire.Load(m.b, k.at, long)
	if !ok {
		return 0, false
	}
	return wire.Next(k.at, int(n), len(m.b))
}

// bytes: those of a type, at a place, UTF-8 or not; false: there are none.
func (m *message) bytes(at int, t api.Type) ([]byte, bool) {
	n, ok := wire.Load(m.b, at, long)
	if !ok {
		return nil, false
	}
	b, ok := wire.Part(m.b, at+long, int(n))
	if ok && t.Kind == api.Text {
		var behind uint64
		behind, ok = wire.Load(m.b, at+long+len(b), 1)
		ok = ok && behind == 0
	}
	if !ok {
		return nil, false
	}
	return b, true
}

// items: the list of elements of a type, at a place; false: there is none.
func (m *message) items(at int, t api.Type) (list, bool) {
	n, ok := wire.Load(m.b, at, long)
	if !ok {
		return list{}, false
	}
	l := list{message: m, t: t, at: at + long, count: int(n), size: long}
	if sorts.Of(t) == sorts.Number {
		l.size = wire.Size(t.Kind)
	}
	if !wire.Within(m.b, l.at, l.count*l.size) {
		return list{}, false
	}
	return l, true
}
