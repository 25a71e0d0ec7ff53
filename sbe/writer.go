package sbe

import (
	"transom/api"
	"transom/arena"
	"transom/sorts"
	"transom/view"
	"transom/wire"
)

// writer puts all that a value has, one behind the other. What a method answers is false where there is a fault, or the arena is over: nothing more is asked then.
type writer struct {
	rows
	arena *arena.Arena
	meter *wire.Meter
	fault api.Errno
}

// newWriter: with nothing put.
func newWriter(s api.Schema, m *wire.Meter) *writer {
	return &writer{rows: rowsOf(s), arena: arena.New(api.MaxOutput), meter: m}
}

// fail: from now on there is a fault.
func (w *writer) fail(fault api.Errno) bool {
	w.fault = fault
	return false
}

// pay: so many steps.
func (w *writer) pay(n int) bool { return w.meter.Take(n) || w.fail(api.ErrBudget) }

// num: a number of so many bytes. One that doesn't have room in these is no fault: what it counts has no room in the arena either.
func (w *writer) num(size int, n uint64) bool {
	_, ok := w.arena.Num(size, n)
	return ok
}

// whole: the head, and the root's struct.
func (w *writer) whole(rec int, v view.View) {
	for _, n := range w.head(rec) {
		w.num(short, uint64(n))
	}
	w.structure(rec, v)
}

// structure: a struct's fields, in the order in which they stand.
func (w *writer) structure(rec int, v view.View) bool {
	if v == nil {
		return w.fail(api.ErrNil)
	}
	r := w.row(rec)
	if !w.pay(1 + len(r.types)) {
		return false
	}
	for _, i := range r.order {
		if !w.field(r.types[i], v, i) {
			return false
		}
	}
	return true
}

// field: one of a type: a struct in a group.
func (w *writer) field(t api.Type, v view.View, i int) bool {
	if sorts.Of(t) != sorts.Struct {
		return w.kid(t, v, i)
	}
	sub, there := v.Sub(i)
	if !there {
		return w.group(t, 0)
	}
	return w.group(t, 1) && w.structure(t.Ref, sub)
}

// kids are a struct's fields, or a list's elements: but for structs both are asked in one way.
type kids interface {
	Num(i int) uint64
	Bytes(i int) []byte
	List(i int) view.Items
}

// kid: a field, or an element, that is no struct.
func (w *writer) kid(t api.Type, of kids, i int) bool {
	switch sorts.Of(t) {
	case sorts.Number:
		return w.num(wire.Size(t.Kind), of.Num(i))
	case sorts.Bytes:
		return w.bytes(of.Bytes(i))
	case sorts.List:
		return w.list(sorts.Element(t), of.List(i))
	}
	return false
}

// bytes: how many, and these.
func (w *writer) bytes(b []byte) bool {
	if !w.pay(len(b)) || !w.num(short, uint64(len(b))) {
		return false
	}
	_, ok := w.arena.Put(b)
	return ok
}

// group: the head of one, of so many elements of a type.
func (w *writer) group(t api.Type, count int) bool {
	return w.num(short, uint64(w.size(t))) && w.num(short, uint64(count))
}

// list: a group of elements of a type.
func (w *writer) list(t api.Type, l view.Items) bool {
	count, ok := w.length(l)
	if !ok || !w.group(t, count) {
		return false
	}
	for i := range count {
		if !w.element(t, l, i) {
			return false
		}
	}
	return true
}

// length: how many elements a list has, all of them paid for; nil has none. One of more than have room even as bytes counts as of just so many: it has no room either.
func (w *writer) length(l view.Items) (int, bool) {
	if !w.pay(1) {
		return 0, false
	}
	if l == nil {
		return 0, true
	}
	count := min(max(l.Len(), 0), api.MaxOutput)
	return count, w.pay(count)
}

// element: one of a type: a struct without a group.
func (w *writer) element(t api.Type, l view.Items, i int) bool {
	if sorts.Of(t) == sorts.Struct {
		return w.structure(t.Ref, l.Sub(i))
	}
	return w.kid(t, l, i)
}
