package sbe

import (
	"bytes"

	"transom/api"
	"transom/sorts"
	"transom/view"
	"transom/wire"
)

// message is what all views of a message share.
type message struct {
	b []byte
	rows
}

// part is where a field or an element stands: the place of its first byte, and that behind its last one.
type part [2]int

// kid is a field or an element of a type; of no type, if there is none.
type kid struct {
	t api.Type
	part
}

// from: what stands from a place on, and is right.
func (m *message) from(at int) *walk { return &walk{message: m, at: at, known: true} }

// empty: a struct whose parts aren't known yet.
func (m *message) empty(rec int) structure {
	types := m.row(rec).types
	return structure{message: m, types: types, parts: make([]part, len(types))}
}

// structure: the one that begins at a place.
func (m *message) structure(rec, at int) structure {
	x := m.empty(rec)
	m.from(at).fields(rec, api.MaxNest, x.parts)
	return x
}

// number: the one of a type at a place.
func (m *message) number(t api.Type, at int) uint64 {
	size := wire.Size(t.Kind)
	n, _ := wire.Load(m.b, at, size)
	if wire.Sign(t.Kind) {
		return wire.Signed(n, size)
	}
	return n
}

// copied: a kid's bytes, in new memory: who asks may write into an answer.
func (m *message) copied(k kid) []byte {
	b, _ := wire.Part(m.b, k.part[0]+short, k.part[1]-k.part[0]-short)
	return bytes.Clone(b)
}

// listed: a kid's list.
func (m *message) listed(k kid) list {
	l := list{message: m}
	if sorts.Of(k.t) != sorts.List {
		return l
	}
	l.t = sorts.Element(k.t)
	w := m.from(k.part[0])
	l.count, _ = w.group(l.t)
	l.at = w.at
	if sorts.Of(l.t) != sorts.Number {
		l.parts = make([]part, l.count)
		w.elements(l.t, l.count, api.MaxNest, l.parts)
	}
	return l
}

// structure is a struct as a view: its fields' types, and where they stand.
type structure struct {
	*message
	types []api.Type
	parts []part
}

// kid: a field of a sort.
func (x structure) kid(f int, of sorts.Sort) kid {
	if f < 0 || f >= len(x.types) || sorts.Of(x.types[f]) != of {
		return kid{}
	}
	return kid{x.types[f], x.parts[f]}
}

// Num: a field's number.
func (x structure) Num(f int) uint64 {
	k := x.kid(f, sorts.Number)
	return x.number(k.t, k.part[0])
}

// Bytes: a field's bytes.
func (x structure) Bytes(f int) []byte { return x.copied(x.kid(f, sorts.Bytes)) }

// Sub: a field's struct; false: it isn't there: its group is a head alone.
func (x structure) Sub(f int) (view.View, bool) {
	k := x.kid(f, sorts.Struct)
	first := k.part[0] + groupHead
	if first >= k.part[1] {
		return nil, false
	}
	return x.structure(k.t.Ref, first), true
}

// List: a field's list.
func (x structure) List(f int) view.Items { return x.listed(x.kid(f, sorts.List)) }

// list is a list as items: of a type, so many; numbers from a place on, others where their parts are.
type list struct {
	*message
	t         api.Type
	at, count int
	parts     []part
}

// kid: an element of a sort.
func (l list) kid(i int, of sorts.Sort) kid {
	if i < 0 || i >= l.count || sorts.Of(l.t) != of {
		return kid{}
	}
	if of != sorts.Number {
		return kid{l.t, l.parts[i]}
	}
	size := wire.Size(l.t.Kind)
	at := l.at + i*size
	return kid{l.t, part{at, at + size}}
}

// Len: how many elements.
func (l list) Len() int { return l.count }

// Num: an element's number.
func (l list) Num(i int) uint64 {
	k := l.kid(i, sorts.Number)
	return l.number(k.t, k.part[0])
}

// Bytes: an element's bytes.
func (l list) Bytes(i int) []byte { return l.copied(l.kid(i, sorts.Bytes)) }

// Sub: an element that is a struct; of nothing, if there is no such element.
func (l list) Sub(i int) view.View {
	k := l.kid(i, sorts.Struct)
	if sorts.Of(k.t) != sorts.Struct {
		return structure{message: l.message}
	}
	return l.structure(k.t.Ref, k.part[0])
}

// List: an element that is a list.
func (l list) List(i int) view.Items { return l.listed(l.kid(i, sorts.List)) }
