package capread

import (
	"transom/api"
	"transom/sorts"
	"transom/wire"
)

// walk goes once through all that a message denotes, and asks whether it is right: behind it a view finds nothing that is wrong.
type walk struct {
	*message
	meter *wire.Meter
	out   bool // the meter didn't have what was wanted
	left  int  // words that may still be reached
}

// pay: so many steps.
func (w *walk) pay(n int) bool {
	ok := w.meter.Take(n)
	w.out = w.out || !ok
	return ok
}

// reach: so many words, 1 at least; false: there were too many in all.
func (w *walk) reach(words int) bool {
	w.left -= max(words, 1)
	return w.left >= 0
}

// whole: the struct to which the first word leads.
func (w *walk) whole(rec int) (structure, bool) {
	p, ok := w.pointer(0)
	if !ok || p.null || !w.structRight(p, rec, api.MaxNest) {
		return structure{}, false
	}
	return w.structure(p, rec), true
}

// kidRight: is what a field or an element leads to right, where it may be so deep?
func (w *walk) kidRight(k kid, room int) bool {
	if !k.there {
		return true
	}
	of := sorts.Of(k.t)
	if of == sorts.Number {
		return w.numberRight(k)
	}
	p, ok := w.pointer(k.at)
	if !ok || p.null {
		return ok
	}
	switch of {
	case sorts.Bytes:
		return w.bytesRight(p, k.t)
	case sorts.List:
		return w.listRight(p, sorts.Element(k.t), room)
	case sorts.Struct:
		return w.structRight(p, k.t.Ref, room)
	}
	return false
}

// numberRight: is a number one of its type? Its width leaves that open of enums alone.
func (w *walk) numberRight(k kid) bool {
	if k.t.Kind != api.Enum {
		return true
	}
	return k.t.Ref >= 0 && k.t.Ref < len(w.enums) && w.number(k) < uint64(w.enums[k.t.Ref])
}

// bytesRight: are bytes right, of a text UTF-8?
func (w *walk) bytesRight(p pointer, t api.Type) bool {
	b, ok := w.bytes(p, t)
	return ok && w.reach(w.extent(p)) && w.pay(1+len(b)) && (t.Kind == api.Data || wire.Utf8(b) < 0)
}

// listRight: is a list right, where it may be so deep? An empty one isn't deep.
func (w *walk) listRight(p pointer, t api.Type, room int) bool {
	l, ok := w.items(p, t)
	if !ok || l.count > 0 && room == 0 || !w.reach(l.reached(p)) || !w.pay(1+l.count) {
		return false
	}
	of := sorts.Of(t)
	for i := range l.count {
		if of == sorts.Struct {
			ok = w.fieldsRight(l.element(i), room-1)
		} else {
			ok = w.kidRight(l.kid(i, of), room-1)
		}
		if !ok {
			return false
		}
	}
	return true
}

// reached: how many words a list has that is gone through, those of its structs among them.
func (l list) reached(p pointer) int {
	if p.code == structsCode {
		return 1 + l.count*max(1, l.size())
	}
	return l.extent(p)
}

// structRight: is a struct right that stands alone, where it may be so deep?
func (w *walk) structRight(p pointer, rec, room int) bool {
	return !p.list && w.reach(p.size()) && w.fieldsRight(w.structure(p, rec), room)
}

// fieldsRight: are a struct's right, where it may be so deep?
func (w *walk) fieldsRight(x structure, room int) bool {
	fields := x.fields(x.rec)
	if room == 0 || !w.pay(1+len(fields)) {
		return false
	}
	for i, f := range fields {
		if !w.kidRight(x.kid(i, sorts.Of(f.t)), room-1) {
			return false
		}
	}
	return true
}
