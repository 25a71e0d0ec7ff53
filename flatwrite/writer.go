package flatwrite

import (
	"transom/api"
	"transom/arena"
	"transom/wire"
)

// Bytes of numbers: of a place that points, of a count, and of what leads from a table to its list; and of a size, and of a field's place.
const (
	long  = 4
	short = 2
)

// writer puts objects one behind the other. What a method answers is false where there is a fault, or the arena is over: nothing more is asked then.
type writer struct {
	schema api.Schema
	arena  *arena.Arena
	meter  *wire.Meter
	fault  api.Errno
}

// newWriter: with nothing put.
func newWriter(s api.Schema, m *wire.Meter) *writer {
	return &writer{schema: s, arena: arena.New(api.MaxOutput), meter: m}
}

// record: a struct by its place in the schema; one of nothing, if there is none.
func (w *writer) record(rec int) api.Record {
	if rec < 0 || rec >= len(w.schema.Structs) {
		return api.Record{}
	}
	return w.schema.Structs[rec]
}

// fail: from now on there is a fault.
func (w *writer) fail(fault api.Errno) bool {
	w.fault = fault
	return false
}

// pay: so many steps.
func (w *writer) pay(n int) bool { return w.meter.Take(n) || w.fail(api.ErrBudget) }

// object: so many bytes 0 more, from a multiple on: where they begin.
func (w *writer) object(multiple, size int) (int, bool) {
	w.arena.Align(multiple)
	return w.arena.Room(size)
}

// set: a number at a place that is there.
func (w *writer) set(at, size, n int) { w.arena.Set(at, size, uint64(n)) }

// lead: a place that points to another one.
func (w *writer) lead(from, to int) { w.set(from, long, to-from) }
