package capread

import (
	"bytes"

	"transom/api"
	"transom/layout"
	"transom/sorts"
	"transom/view"
)

// structure is a struct as a view: of a place in the schema, and so shaped at a word.
type structure struct {
	*message
	rec, at int
	shape
}

// kid: a field of a sort; one that isn't there, if there is no such field.
func (x structure) kid(f int, of sorts.Sort) kid {
	fields := x.fields(x.rec)
	if f < 0 || f >= len(fields) || sorts.Of(fields[f].t) != of {
		return kid{}
	}
	k := kid{t: fields[f].t, def: fields[f].def}
	at := fields[f].at
	if of == sorts.Number {
		k.at = wordBits*x.at + at
		k.there = at+layout.Bits(k.t.Kind) <= wordBits*x.nums
	} else {
		k.at = x.at + x.nums + at
		k.there = at < x.ptrs
	}
	return k
}

// Num: a field's number.
func (x structure) Num(f int) uint64 { return x.number(x.kid(f, sorts.Number)) }

// Bytes: a field's bytes.
func (x structure) Bytes(f int) []byte { return x.copied(x.kid(f, sorts.Bytes)) }

// Sub: a field's struct; false: it isn't there.
func (x structure) Sub(f int) (view.View, bool) {
	k := x.kid(f, sorts.Struct)
	p, ok := x.target(k)
	if !ok || p.list {
		return nil, false
	}
	return x.structure(p, k.t.Ref), true
}

// List: a field's list.
func (x structure) List(f int) view.Items { return x.listed(x.kid(f, sorts.List)) }

// list is a list as items: of a type, from a word on; of structs that are shaped alike, one behind the other.
type list struct {
	*message
	t         api.Type
	at, count int
	shape
}

// kid: an element of a sort; one that isn't there, if there is no such element.
func (l list) kid(i int, of sorts.Sort) kid {
	if i < 0 || i >= l.count || sorts.Of(l.t) != of {
		return kid{}
	}
	k := kid{t: l.t, at: l.at + i, there: true}
	if of == sorts.Number {
		k.at = wordBits*l.at + i*layout.Bits(l.t.Kind)
	}
	return k
}

// element: one that is a struct; of no struct, if there is no such element.
func (l list) element(i int) structure {
	if i < 0 || i >= l.count || sorts.Of(l.t) != sorts.Struct {
		return structure{message: l.message, rec: -1}
	}
	return structure{l.message, l.t.Ref, l.at + i*l.size(), l.shape}
}

// Len: how many elements.
func (l list) Len() int { return l.count }

// Num: an element's number.
func (l list) Num(i int) uint64 { return l.number(l.kid(i, sorts.Number)) }

// Bytes: an element's bytes.
func (l list) Bytes(i int) []byte { return l.copied(l.kid(i, sorts.Bytes)) }

// Sub: an element that is a struct.
func (l list) Sub(i int) view.View { return l.element(i) }

// List: an element that is a list.
func (l list) List(i int) view.Items { return l.listed(l.kid(i, sorts.List)) }

// target: the pointer of a kid; false: there is none, or it is null.
func (m *message) target(k kid) (pointer, bool) {
	if !k.there {
		return pointer{}, false
	}
	p, ok := m.pointer(k.at)
	return p, ok && !p.null
}

// structure: that to which a pointer leads.
func (m *message) structure(p pointer, rec int) structure {
	return structure{m, rec, p.at, p.shape}
}

// copied: a kid's bytes, in new memory: who asks may write into an answer.
func (m *message) copied(k kid) []byte {
	p, ok := m.target(k)
	if !ok {
		return nil
	}
	b, _ := m.bytes(p, k.t)
	return bytes.Clone(b)
}

// listed: a kid's list.
func (m *message) listed(k kid) list {
	p, ok := m.target(k)
	if !ok {
		return list{}
	}
	l, _ := m.items(p, sorts.Element(k.t))
	return l
}
