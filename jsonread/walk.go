package jsonread

import (
	"transom/api"
	"transom/scan"
	"transom/sorts"
	"transom/wire"
)

// walk goes over what stands one behind the other, and asks whether it is right. Read goes so over the whole; a view goes over a piece of it once more, to tell what it says: that piece is known to be right, and paid for.
type walk struct {
	*message
	*scan.Scanner
	meter *wire.Meter
	room  int // how deep what comes next may be
}

// told is what a value says: a number, bytes, or the places at which a struct's fields (0: it isn't there) or a list's elements stand.
type told struct {
	num   uint64
	bytes []byte
	parts []int
}

// whole: the root's struct, with nothing but blanks behind.
func (w *walk) whole(rec int) (structure, bool) {
	root := api.Type{Kind: api.Struct, Ref: rec}
	x, ok := w.value(root)
	return w.structure(root, x.parts), ok && w.End()
}

// value: over one of a type.
func (w *walk) value(t api.Type) (told, bool) {
	switch sorts.Of(t) {
	case 0:
		return told{}, false
	case sorts.List:
		return w.list(sorts.Element(t))
	}
	return w.ways[t.Kind](w, t)
}

// deeper: over one of a type, in a struct or in a list.
func (w *walk) deeper(t api.Type) bool {
	if w.room == 0 {
		return false
	}
	w.room--
	_, ok := w.value(t)
	w.room++
	return ok
}

// list: over one of elements of a type. Each has bytes of its own, which are paid for. An empty list isn't deep.
func (w *walk) list(t api.Type) (told, bool) {
	var x told
	ok := w.row('[', ']', func() bool {
		x.parts = append(x.parts, w.At())
		return w.deeper(t)
	})
	return x, ok
}

// fields: over a struct. All its fields are paid for: those that aren't there have no bytes, but are told too.
func (w *walk) fields(t api.Type) (told, bool) {
	r, ok := w.record(t.Ref)
	if !ok || w.room == 0 || !w.meter.Take(1+len(r.fields)) {
		return told{}, false
	}
	parts := make([]int, len(r.fields))
	ok = w.row('{', '}', func() bool { return w.field(r, parts) })
	return told{parts: parts}, ok
}

// field: over one of a struct, that wasn't there yet.
func (w *walk) field(r record, parts []int) bool {
	name, ok := w.Text()
	if !ok || !w.Sign(':') {
		return false
	}
	i, ok := r.names[string(name)]
	if !ok || parts[i] != 0 {
		return false
	}
	parts[i] = w.At()
	return w.deeper(r.fields[i].t)
}

// row: over things between two signs, with commas between; each is gone over by a function.
func (w *walk) row(first, last byte, each func() bool) bool {
	if !w.Sign(first) {
		return false
	}
	if w.Sign(last) {
		return true
	}
	for each() {
		if w.Sign(last) {
			return true
		}
		if !w.Sign(',') {
			return false
		}
	}
	return false
}
