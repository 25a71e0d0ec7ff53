package capwrite

import (
	"transom/api"
	"transom/arena"
	"transom/layout"
	"transom/view"
	"transom/wire"
)

// shaped is a struct of the schema, and where its fields stand.
type shaped struct {
	api.Record
	layout.Packed
}

// size: in words.
func (x shaped) size() int { return x.Words + x.Ptrs }

// writer puts objects one behind the other. Places are words from the message's beginning on. What a method answers is false where the meter ran out, or the arena is over: nothing more is asked then.
type writer struct {
	structs []shaped
	arena   *arena.Arena
	meter   *wire.Meter
	out     bool // the meter didn't have what was wanted
}

// newWriter: with nothing put.
func newWriter(s api.Schema, m *wire.Meter) *writer {
	w := &writer{arena: arena.New(api.MaxOutput), meter: m}
	for _, r := range s.Structs {
		w.structs = append(w.structs, shaped{r, layout.Words(r)})
	}
	return w
}

// shaped: a struct by its place in the schema; one of nothing, if there is none.
func (w *writer) shaped(rec int) shaped {
	if rec < 0 || rec >= len(w.structs) {
		return shaped{}
	}
	return w.structs[rec]
}

// pay: so many steps.
func (w *writer) pay(n int) bool {
	ok := w.meter.Take(n)
	w.out = w.out || !ok
	return ok
}

// whole: the head, and the pointer that leads to the root's struct. How many words there are is known behind all of them.
func (w *writer) whole(rec int, v view.View) {
	const (
		head      = 1
		countAt   = 4
		countSize = 4
	)
	w.room(head + 1)
	if w.structure(head, rec, v) {
		count := w.arena.Len()/wordSize - head
		w.arena.Set(countAt, countSize, uint64(count))
	}
}

// room: so many words of 0 more: where the first one stands.
func (w *writer) room(count int) (int, bool) {
	at, ok := w.arena.Room(wordSize * count)
	return at / wordSize, ok
}

// set: words from one on that is there.
func (w *writer) set(at int, l ...uint64) {
	for i, word := range l {
		w.arena.Set(wordSize*(at+i), wordSize, word)
	}
}

// lead: a pointer of such bits in one word, that leads to another.
func (w *writer) lead(from, to int, bits uint64) {
	w.set(from, with(bits, to-from-1))
}

// object: so many words of 0 more, to which a pointer of such bits in a word leads: where they begin.
func (w *writer) object(from, count int, bits uint64) (int, bool) {
	at, ok := w.room(count)
	if ok {
		w.lead(from, at, bits)
	}
	return at, ok
}
