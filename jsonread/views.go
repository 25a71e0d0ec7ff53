package jsonread

import (
	"math"

	"transom/api"
	"transom/sorts"
	"transom/view"
	"transom/wire"
)

// kid is a field, or an element, that stands at a place; at 0 none does, and it is its default.
type kid struct {
	field
	at int
}

// told: what a kid says. Each question has a meter of its own, since Read was paid for all.
func (m *message) told(k kid) told {
	if k.at == 0 {
		return told{num: k.def}
	}
	x, _ := m.from(k.at, wire.New(math.MaxInt)).value(k.t)
	return x
}

// structure: one of a type, whose fields stand at these places.
func (m *message) structure(t api.Type, parts []int) structure {
	r, _ := m.record(t.Ref)
	return structure{m, r.fields, parts}
}

// listed: a kid's list.
func (m *message) listed(k kid) list {
	return list{m, sorts.Element(k.t), m.told(k).parts}
}

// structure is a struct as a view: its fields, and where they stand.
type structure struct {
	*message
	fields []field
	parts  []int
}

// kid: a field of a sort; one that isn't there, if there is no such field.
func (x structure) kid(f int, of sorts.Sort) kid {
	if f < 0 || f >= len(x.parts) || sorts.Of(x.fields[f].t) != of {
		return kid{}
	}
	return kid{x.fields[f], x.parts[f]}
}

// Num: a field's number.
func (x structure) Num(f int) uint64 { return x.told(x.kid(f, sorts.Number)).num }

// Bytes: a field's bytes.
func (x structure) Bytes(f int) []byte { return x.told(x.kid(f, sorts.Bytes)).bytes }

// Sub: a field's struct; false: it isn't there.
func (x structure) Sub(f int) (view.View, bool) {
	k := x.kid(f, sorts.Struct)
	if k.at == 0 {
		return nil, false
	}
	return x.structure(k.t, x.told(k).parts), true
}

// List: a field's list.
func (x structure) List(f int) view.Items { return x.listed(x.kid(f, sorts.List)) }

// list is a list as items: of a type, and where they stand.
type list struct {
	*message
	t     api.Type
	parts []int
}

// kid: an element of a sort; one that isn't there, if there is no such element.
func (l list) kid(i int, of sorts.Sort) kid {
	if i < 0 || i >= len(l.parts) || sorts.Of(l.t) != of {
		return kid{}
	}
	return kid{field{t: l.t}, l.parts[i]}
}

// Len: how many elements.
func (l list) Len() int { return len(l.parts) }

// Num: an element's number.
func (l list) Num(i int) uint64 { return l.told(l.kid(i, sorts.Number)).num }

// Bytes: an element's bytes.
func (l list) Bytes(i int) []byte { return l.told(l.kid(i, sorts.Bytes)).bytes }

// Sub: an element that is a struct; one of nothing, if there is no such element.
func (l list) Sub(i int) view.View {
	k := l.kid(i, sorts.Struct)
	return l.structure(k.t, l.told(k).parts)
}

// List: an element that is a list.
func (l list) List(i int) view.Items { return l.listed(l.kid(i, sorts.List)) }
