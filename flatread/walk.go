package flatread

import (
	"transom/api"
	"transom/sorts"
	"transom/wire"
)

// walk goes once through all that a message denotes, and asks whether it is right: behind it a view finds nothing that is wrong.
type walk struct {
	*message
	meter *wire.Meter
	out   bool // the meter didn't have what was wanted
	left  int  // bytes that may still be reached
}

// pay: so many steps.
func (w *walk) pay(n int) bool {
	ok := w.meter.Take(n)
	w.out = w.out || !ok
	return ok
}

// reach: so many bytes; false: there were too many in all.
func (w *walk) reach(size int) bool {
	w.left -= size
	return w.left >= 0
}

// whole: the struct to which the first place points.
func (w *walk) whole(rec int) (structure, bool) {
	first := kid{t: api.Type{Kind: api.Struct, Ref: rec}, there: true}
	x, ok := w.pointed(first)
	return x, ok && w.structRight(x, api.MaxNest)
}

// structRight: is a struct right, where it may be so deep?
func (w *walk) structRight(x structure, room int) bool {
	fields := x.fields(x.rec)
	if room == 0 || !w.reach(x.listSize+x.size) || !w.pay(1+len(fields)) {
		return false
	}
	for i, f := range fields {
		k := x.kid(i, sorts.Of(f.t))
		if k.there && !(x.holds(k.at-x.at, f.size) && w.kidRight(k, room-1)) {
			return false
		}
	}
	return true
}

// kidRight: is a field or an element right that is there, where it may be so deep?
func (w *walk) kidRight(k kid, room int) bool {
	switch sorts.Of(k.t) {
	case sorts.Number:
		return w.numberRight(k)
	case sorts.Bytes:
		return w.bytesRight(k)
	case sorts.List:
		return w.listRight(k, room)
	case sorts.Struct:
		x, ok := w.pointed(k)
		return ok && w.structRight(x, room)
	}
	return false
}

// numberRight: is a number one of its type? Its size leaves that open of bools and enums alone.
func (w *walk) numberRight(k kid) bool {
	switch k.t.Kind {
	case api.Bool:
		return w.number(k) <= 1
	case api.Enum:
		return k.t.Ref >= 0 && k.t.Ref < len(w.enums) && w.number(k) < uint64(w.enums[k.t.Ref])
	}
	return true
}

// bytesRight: are bytes right, of a text UTF-8?
func (w *walk) bytesRight(k kid) bool {
	at, ok := w.target(k)
	if !ok {
		return false
	}
	b, ok := w.bytes(at, k.t)
	text := k.t.Kind == api.Text
	reached := long + len(b)
	if text {
		reached++ // the byte 0 behind them
	}
	return ok && w.reach(reached) && w.pay(1+len(b)) && !(text && wire.Utf8(b) >= 0)
}

// listRight: is a list right, where it may be so deep? An empty one isn't deep.
func (w *walk) listRight(k kid, room int) bool {
	at, ok := w.target(k)
	if !ok {
		return false
	}
	l, ok := w.items(at, sorts.Element(k.t))
	if !ok || l.count > 0 && room == 0 || !w.reach(long+l.count*l.size) || !w.pay(1+l.count) {
		return false
	}
	of := sorts.Of(l.t)
	for i := range l.count {
		if !w.kidRight(l.kid(i, of), room-1) {
			return false
		}
	}
	return true
}
