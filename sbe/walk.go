package sbe

import (
	"transom/api"
	"transom/schema"
	"transom/sorts"
	"transom/wire"
)

// walk goes over what stands one behind the other, and asks whether it is right. Read goes so over the whole; a view goes over a piece of it once more, to tell where its parts stand: that piece is known to be right, and paid for.
type walk struct {
	*message
	at     int // how far it has come
	known  bool
	schema api.Schema
	meter  *wire.Meter
	out    bool // the meter didn't have what was wanted
}

// pay: so many steps.
func (w *walk) pay(n int) bool {
	ok := w.known || w.meter.Take(n)
	w.out = w.out || !ok
	return ok
}

// pass: over so many bytes; false: there aren't as many.
func (w *walk) pass(n int) bool {
	at, ok := wire.Next(w.at, n, len(w.b))
	if ok {
		w.at = at
	}
	return ok
}

// short: over a number of a head, or of how many bytes there are.
func (w *walk) short() (int, bool) {
	n, ok := wire.Load(w.b, w.at, short)
	return int(n), ok && w.pass(short)
}

// note: what was gone over from a place on is one of the parts, where these are wanted.
func (w *walk) note(parts []part, i, from int) {
	if i < len(parts) {
		parts[i] = part{from, w.at}
	}
}

// whole: the head and the root's struct, with nothing behind.
func (w *walk) whole(rec int) (structure, bool) {
	var said head
	for i := range said {
		n, ok := w.short()
		if !ok {
			return structure{}, false
		}
		said[i] = n
	}
	if said != w.head(rec) {
		return structure{}, false
	}
	x := w.empty(rec)
	return x, w.fields(rec, api.MaxNest, x.parts) && w.at == len(w.b)
}

// fields: over a struct, where it may be so deep. Each field is paid for where it is gone over.
func (w *walk) fields(rec, room int, parts []part) bool {
	r := w.row(rec)
	if room == 0 || !w.pay(1) {
		return false
	}
	for _, i := range r.order {
		from := w.at
		if !w.field(r.types[i], room-1) {
			return false
		}
		w.note(parts, i, from)
	}
	return true
}

// field: over a field, where it may be so deep.
func (w *walk) field(t api.Type, room int) bool {
	if sorts.Of(t) == sorts.Struct {
		return w.one(t, room)
	}
	return w.kid(t, room)
}

// kid: over a field, or an element, that is no struct.
func (w *walk) kid(t api.Type, room int) bool {
	switch sorts.Of(t) {
	case sorts.Number:
		return w.numbers(t, 1)
	case sorts.Bytes:
		return w.bytes(t)
	case sorts.List:
		return w.list(sorts.Element(t), room)
	}
	return false
}

// numbers: over so many of a type. All are paid for once they are there: there may be fewer bytes than are told.
func (w *walk) numbers(t api.Type, count int) bool {
	from, size := w.at, wire.Size(t.Kind)
	if !w.pass(size*count) || !w.pay(count) {
		return false
	}
	if w.known {
		return true
	}
	for i := range count {
		if !schema.Fits(w.schema, t, w.number(t, from+size*i)) {
			return false
		}
	}
	return true
}

// bytes: over those of a type, of a text UTF-8.
func (w *walk) bytes(t api.Type) bool {
	n, ok := w.short()
	b, there := wire.Part(w.b, w.at, n)
	return ok && there && w.pass(n) && w.pay(1+n) && (w.known || t.Kind == api.Data || wire.Utf8(b) < 0)
}

// group: over the head of one whose elements are of a type; how many they are.
func (w *walk) group(t api.Type) (int, bool) {
	size, sized := w.short()
	count, counted := w.short()
	if !sized || !counted || size != w.size(t) || !w.pay(1) {
		return 0, false
	}
	return count, true
}

// one: over a group of one struct, or of none.
func (w *walk) one(t api.Type, room int) bool {
	count, ok := w.group(t)
	if !ok || count > 1 {
		return false
	}
	return count == 0 || w.fields(t.Ref, room, nil)
}

// list: over a group of elements of a type.
func (w *walk) list(t api.Type, room int) bool {
	count, ok := w.group(t)
	if !ok {
		return false
	}
	if sorts.Of(t) == sorts.Number {
		return (count == 0 || room > 0) && w.numbers(t, count)
	}
	return w.elements(t, count, room, nil)
}

// elements: over so many of a type, that are no numbers. None of them are not deep.
func (w *walk) elements(t api.Type, count, room int, parts []part) bool {
	for i := range count {
		from := w.at
		if room == 0 || !w.element(t, room-1) {
			return false
		}
		w.note(parts, i, from)
	}
	return true
}

// element: over an element, where it may be so deep: one that is a struct stands there without a group.
func (w *walk) element(t api.Type, room int) bool {
	if sorts.Of(t) == sorts.Struct {
		return w.fields(t.Ref, room, nil)
	}
	return w.kid(t, room)
}
