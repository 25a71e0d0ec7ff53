package jsonwrite

import (
	"transom/api"
	"transom/sorts"
	"transom/view"
)

// Record: a struct. Each field is paid for ahead of being asked for.
func (w *Writer) Record(k int, v view.View) {
	if v == nil {
		w.fail(api.ErrNil)
	}
	if !w.pay(1) {
		return
	}
	w.Put("{")
	comma := ""
	for _, f := range w.record(k) {
		if !w.pay(1) {
			return
		}
		if w.field(comma, f, v) {
			comma = ","
		}
	}
	w.Put("}")
}

// field: one of a struct, behind a comma or nothing; false: it is a struct that isn't there, and nothing is put.
func (w *Writer) field(comma string, f field, v view.View) bool {
	if sorts.Of(f.t) != sorts.Struct {
		w.label(comma, f)
		w.kid(f.t, v, f.place)
		return true
	}
	sub, there := v.Sub(f.place)
	if there {
		w.label(comma, f)
		w.Record(f.t.Ref, sub)
	}
	return there
}

// label: what stands ahead of a field's value.
func (w *Writer) label(comma string, f field) {
	w.Put(comma)
	w.Text([]byte(f.name))
	w.Put(":")
}

// List: of a type that is a list. Each element is paid for ahead of being asked for.
func (w *Writer) List(t api.Type, l view.Items) {
	if sorts.Of(t) != sorts.List || !w.pay(1) {
		return
	}
	w.Put("[")
	for i := range length(l) {
		if !w.pay(1) {
			return
		}
		if i > 0 {
			w.Put(",")
		}
		w.element(sorts.Element(t), l, i)
	}
	w.Put("]")
}

// length: how many elements a list has; nil has none.
func length(l view.Items) int {
	if l == nil {
		return 0
	}
	return l.Len()
}

// element: one of a list.
func (w *Writer) element(t api.Type, l view.Items, i int) {
	if sorts.Of(t) == sorts.Struct {
		w.Record(t.Ref, l.Sub(i))
		return
	}
	w.kid(t, l, i)
}

// kids are a struct's fields, or a list's elements: but for structs both are asked in one way.
type kids interface {
	Num(i int) uint64
	Bytes(i int) []byte
	List(i int) view.Items
}

// kid: a field, or an element, that is no struct.
func (w *Writer) kid(t api.Type, of kids, i int) {
	switch sorts.Of(t) {
	case sorts.Number:
		w.Num(t, of.Num(i))
	case sorts.Bytes:
		w.Bytes(t, of.Bytes(i))
	case sorts.List:
		w.List(t, of.List(i))
	}
}
