package flatread

import (
	"bytes"

	"transom/api"
	"transom/sorts"
	"transom/view"
)

// structure is a struct as a view: of a place in the schema, and a table.
type structure struct {
	*message
	rec int
	table
}

// kid: a field of a sort; one that isn't there, if there is no such field.
func (x structure) kid(f int, of sorts.Sort) kid {
	fields := x.fields(x.rec)
	if f < 0 || f >= len(fields) || sorts.Of(fields[f].t) != of {
		return kid{}
	}
	at := x.fieldAt(x.table, f)
	return kid{t: fields[f].t, at: x.at + at, def: fields[f].def, there: at != 0}
}

// Num: a field's number.
func (x structure) Num(f int) uint64 { return x.number(x.kid(f, sorts.Number)) }

// Bytes: a field's bytes.
func (x structure) Bytes(f int) []byte { return x.copied(x.kid(f, sorts.Bytes)) }

// Sub: a field's struct; false: it isn't there.
func (x structure) Sub(f int) (view.View, bool) {
	sub, ok := x.pointed(x.kid(f, sorts.Struct))
	if !ok {
		return nil, false
	}
	return sub, true
}

// List: a field's list.
func (x structure) List(f int) view.Items { return x.listed(x.kid(f, sorts.List)) }

// list is a list as items: of a type, from a place on, each of so many bytes.
type list struct {
	*message
	t               api.Type
	at, count, size int
}

// kid: an element of a sort; one that isn't there, if there is no such element.
func (l list) kid(i int, of sorts.Sort) kid {
	if i < 0 || i >= l.count || sorts.Of(l.t) != of {
		return kid{}
	}
	return kid{t: l.t, at: l.at + i*l.size, there: true}
}

// Len: how many elements.
func (l list) Len() int { return l.count }

// Num: an element's number.
func (l list) Num(i int) uint64 { return l.number(l.kid(i, sorts.Number)) }

// Bytes: an element's bytes.
func (l list) Bytes(i int) []byte { return l.copied(l.kid(i, sorts.Bytes)) }

// Sub: an element that is a struct; of no struct, if there is no such element.
func (l list) Sub(i int) view.View {
	sub, ok := l.pointed(l.kid(i, sorts.Struct))
	if !ok {
		return structure{message: l.message, rec: -1}
	}
	return sub
}

// List: an element that is a list.
func (l list) List(i int) view.Items { return l.listed(l.kid(i, sorts.List)) }

// pointed: the struct to which a kid points; false: to none.
func (m *message) pointed(k kid) (structure, bool) {
	at, ok := m.target(k)
	if !ok {
		return structure{}, false
	}
	t, ok := m.tableAt(at)
	return structure{m, k.t.Ref, t}, ok
}

// copied: a kid's bytes, in new memory: who asks may write into an answer.
func (m *message) copied(k kid) []byte {
	at, ok := m.target(k)
	if !ok {
		return nil
	}
	b, _ := m.bytes(at, k.t)
	return bytes.Clone(b)
}

// listed: a kid's list.
func (m *message) listed(k kid) list {
	at, ok := m.target(k)
	if !ok {
		return list{}
	}
	l, _ := m.items(at, sorts.Element(k.t))
	return l
}
