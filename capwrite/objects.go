package capwrite

import (
	"transom/api"
	"transom/layout"
	"transom/sorts"
	"transom/view"
)

// kids are a struct's fields, or a list's elements: for bytes and for lists both are asked in one way.
type kids interface {
	Bytes(i int) []byte
	List(i int) view.Items
}

// structure: a struct, to which the pointer in a word leads, and all that comes of it.
func (w *writer) structure(from, rec int, v view.View) bool {
	x := w.shaped(rec)
	at, ok := w.object(from, x.size(), structBits(x.Packed))
	return ok && w.fields(at, x, v)
}

// fields: those of a struct that stands at a word, where there is nothing yet. A number that is its default leaves it so.
func (w *writer) fields(at int, x shaped, v view.View) bool {
	if !w.pay(1 + len(x.Fields)) {
		return false
	}
	nums := make(words, x.Words)
	for i, f := range x.Fields {
		if sorts.Of(f.Type) == sorts.Number {
			nums.put(x.At[i], layout.Bits(f.Type.Kind), v.Num(i)^f.Def)
		} else if !w.field(at+x.Words+x.At[i], f.Type, v, i) {
			return false
		}
	}
	w.set(at, nums...)
	return true
}

// field: what a field's pointer leads to; null, if it isn't there.
func (w *writer) field(from int, t api.Type, v view.View, i int) bool {
	if sorts.Of(t) != sorts.Struct {
		return w.kid(from, t, v, i)
	}
	sub, there := v.Sub(i)
	return !there || w.structure(from, t.Ref, sub)
}

// kid: what the pointer of a field, or an element, leads to, of bytes or of a list; null, if it is empty.
func (w *writer) kid(from int, t api.Type, of kids, i int) bool {
	if sorts.Of(t) == sorts.List {
		return w.list(from, sorts.Element(t), of.List(i))
	}
	return w.bytes(from, t, of.Bytes(i))
}

// bytes: those of a type; of a text with a byte 0 behind them.
func (w *writer) bytes(from int, t api.Type, b []byte) bool {
	if len(b) == 0 {
		return true
	}
	if !w.pay(len(b)) {
		return false
	}
	count := len(b)
	if t.Kind == api.Text {
		count++
	}
	at := w.arena.Len() / wordSize
	w.arena.Put(b)
	w.arena.Room(count - len(b))
	if !w.arena.Align(wordSize) {
		return false
	}
	w.lead(from, at, listBits(bytesCode, count))
	return true
}

// list: one of elements of a type.
func (w *writer) list(from int, t api.Type, l view.Items) bool {
	count := length(l)
	if !w.pay(1 + count) {
		return false
	}
	if count == 0 {
		return true
	}
	switch sorts.Of(t) {
	case sorts.Number:
		return w.numbers(from, t, l, count)
	case sorts.Struct:
		return w.structures(from, t.Ref, l, count)
	}
	return w.pointers(from, t, l, count)
}

// length: how many elements a list has; nil has none. One of more than have room even as bits counts as of just so many: it has no room either, and what it wants doesn't wrap round.
func length(l view.Items) int {
	const most = 8 * api.MaxOutput
	if l == nil {
		return 0
	}
	return min(max(l.Len(), 0), most)
}

// numbers: a list of them.
func (w *writer) numbers(from int, t api.Type, l view.Items, count int) bool {
	width := layout.Bits(t.Kind)
	size := wordsOf(width * count)
	at, ok := w.object(from, size, listBits(numbersCode(width), count))
	if !ok {
		return false
	}
	nums := make(words, size)
	for i := range count {
		nums.put(width*i, width, l.Num(i))
	}
	w.set(at, nums...)
	return true
}

// structures: a list of structs: all of them behind a tag, and then, element by element, what comes of them.
func (w *writer) structures(from, rec int, l view.Items, count int) bool {
	x := w.shaped(rec)
	size := x.size() * count
	at, ok := w.object(from, 1+size, listBits(structsCode, size))
	if !ok {
		return false
	}
	w.set(at, with(structBits(x.Packed), count))
	for i := range count {
		if !w.fields(at+1+x.size()*i, x, l.Sub(i)) {
			return false
		}
	}
	return true
}

// pointers: a list of bytes or of lists.
func (w *writer) pointers(from int, t api.Type, l view.Items, count int) bool {
	at, ok := w.object(from, count, listBits(pointersCode, count))
	if !ok {
		return false
	}
	for i := range count {
		if !w.kid(at+i, t, l, i) {
			return false
		}
	}
	return true
}
