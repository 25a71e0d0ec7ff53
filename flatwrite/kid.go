package flatwrite

import (
	"transom/api"
	"transom/sorts"
	"transom/view"
)

// kid is what a field or an element is: it was asked for once, and has what its type has.
type kid struct {
	t     api.Type
	num   uint64
	bytes []byte
	items elements
	count int
	sub   view.View
	there bool // of a field: it isn't its default
}

// elements are a list, asked as if they were fields.
type elements struct{ view.Items }

// Sub: an element that is a struct: all of them are there.
func (l elements) Sub(i int) (view.View, bool) { return l.Items.Sub(i), true }

// ask: what a field, or an element, is. Its place is paid for; how much stands there is known behind the question alone.
func (w *writer) ask(f api.Field, of view.View, i int) (kid, bool) {
	k, ok := kid{t: f.Type}, true
	switch sorts.Of(f.Type) {
	case sorts.Number:
		k.num = of.Num(i)
		k.there = k.num != f.Def
	case sorts.Bytes:
		k.bytes = of.Bytes(i)
		k.there = len(k.bytes) > 0
		ok = w.pay(len(k.bytes))
	case sorts.List:
		k.items = elements{of.List(i)}
		k.count, ok = w.length(k.items)
		k.there = k.count > 0
	case sorts.Struct:
		k.sub, k.there = of.Sub(i)
	}
	return k, ok
}

// length: how many elements a list has, all of them paid for; nil has none. One of more than have room even as bytes counts as of just so many: it has no room either, and what it wants doesn't wrap round.
func (w *writer) length(l elements) (int, bool) {
	if !w.pay(1) {
		return 0, false
	}
	if l.Items == nil {
		return 0, true
	}
	count := min(max(l.Len(), 0), api.MaxOutput)
	return count, w.pay(count)
}
