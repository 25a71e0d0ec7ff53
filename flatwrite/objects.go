package flatwrite

import (
	"transom/api"
	"transom/layout"
	"transom/sorts"
	"transom/view"
	"transom/wire"
)

// whole: the place that points to the root's table, and all that comes of it.
func (w *writer) whole(rec int, v view.View) {
	first, _ := w.arena.Room(long)
	w.table(first, rec, v)
}

// put: what a field or an element is, at its place: a number itself, of others what it points to.
func (w *writer) put(at int, k kid) bool {
	switch sorts.Of(k.t) {
	case sorts.Number:
		return w.arena.Set(at, wire.Size(k.t.Kind), k.num)
	case sorts.Bytes:
		return w.bytes(at, k)
	case sorts.List:
		return w.list(at, k)
	case sorts.Struct:
		return w.table(at, k.t.Ref, k.sub)
	}
	return false
}

// table: a struct, to whose table a place points, and all that comes of it.
func (w *writer) table(from, rec int, v view.View) bool {
	if v == nil {
		return w.fail(api.ErrNil)
	}
	r := w.record(rec)
	kids, there, ok := w.fields(r, v)
	if !ok {
		return false
	}
	x := layout.Tabled(r, there)
	at, ok := w.places(x, there)
	if !ok {
		return false
	}
	w.lead(from, at)
	for i, k := range kids {
		if k.there && !w.put(at+x.At[i], k) {
			return false
		}
	}
	return true
}

// fields: what a struct's fields are, and which are there. All are asked ahead of any that is put: where they stand hangs on all of them.
func (w *writer) fields(r api.Record, v view.View) ([]kid, []bool, bool) {
	count := len(r.Fields)
	if !w.pay(1 + count) {
		return nil, nil, false
	}
	kids, there := make([]kid, count), make([]bool, count)
	for i, f := range r.Fields {
		k, ok := w.ask(f, v, i)
		if !ok {
			return nil, nil, false
		}
		kids[i], there[i] = k, k.there
	}
	return kids, there, true
}

// places: a table's list, and the table, of which only the head is set: where it begins.
func (w *writer) places(x layout.Table, there []bool) (int, bool) {
	const sizes = 2 * short
	needed := needs(there)
	listSize := sizes + short*needed
	list, _ := w.object(short, listSize)
	at, ok := w.object(x.Align, x.Size)
	if !ok {
		return 0, false
	}
	w.set(list, short, listSize)
	w.set(list+short, short, x.Size)
	for i := range needed {
		w.set(list+sizes+short*i, short, x.At[i])
	}
	w.set(at, long, at-list)
	return at, true
}

// needs: for how many fields a list has places, so that the last one that is there has one.
func needs(there []bool) int {
	count := len(there)
	for count > 0 && !there[count-1] {
		count--
	}
	return count
}

// bytes: those of a type, to whose count a place points; of a text with a byte 0 behind them.
func (w *writer) bytes(from int, k kid) bool {
	at, _ := w.object(long, long)
	w.arena.Put(k.bytes)
	if k.t.Kind == api.Text {
		w.arena.Room(1)
	}
	w.lead(from, at)
	w.set(at, long, len(k.bytes))
	return !w.arena.Over()
}

// list: a list, to whose count a place points, and all that comes of its elements.
func (w *writer) list(from int, k kid) bool {
	element := api.Field{Type: sorts.Element(k.t)}
	size := layout.Inline(element)
	w.ahead(size)
	at, ok := w.object(long, long+k.count*size)
	if !ok {
		return false
	}
	w.lead(from, at)
	w.set(at, long, k.count)
	for i := range k.count {
		x, ok := w.ask(element, k.items, i)
		if !ok || !w.put(at+long+i*size, x) {
			return false
		}
	}
	return true
}

// ahead: bytes 0, so that elements of 8 bytes stand at a multiple of 8, behind a count.
func (w *writer) ahead(size int) {
	const widest = 8
	w.arena.Align(long)
	if size == widest && w.arena.Len()%widest == 0 {
		w.arena.Room(long)
	}
}
