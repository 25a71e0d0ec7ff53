package sbe

import (
	"slices"

	"transom/api"
	"transom/layout"
	"transom/sorts"
	"transom/wire"
)

// Bytes of a head's number, and of how many bytes there are; and of a group's head: the size of an element's numbers, and how many elements.
const (
	short     = 2
	groupHead = 2 * short
)

// row is a struct of the schema: its fields' types, the order in which they stand, and the size of its numbers.
type row struct {
	types []api.Type
	order []int
	size  int
}

// rows are a schema's structs, in memory of their own, since of what is handed in only a message's bytes may be kept.
type rows []row

// rowsOf: a schema's.
func rowsOf(s api.Schema) rows {
	l := make(rows, len(s.Structs))
	for i, r := range s.Structs {
		l[i] = rowOf(r)
	}
	return l
}

// rowOf: a struct's: its numbers, then its groups, then its bytes.
func rowOf(r api.Record) row {
	block := layout.Rowed(r)
	x := row{size: block.Size}
	for i, f := range r.Fields {
		x.types = append(x.types, f.Type)
		if sorts.Of(f.Type) == sorts.Number {
			x.order = append(x.order, i)
		}
	}
	x.order = slices.Concat(x.order, block.Groups, block.Bytes)
	return x
}

// row: a struct's by its place in the schema; one of nothing, if there is none.
func (l rows) row(rec int) row {
	if rec < 0 || rec >= len(l) {
		return row{}
	}
	return l[rec]
}

// size: that of the numbers of an element of a type.
func (l rows) size(t api.Type) int {
	switch sorts.Of(t) {
	case sorts.Number:
		return wire.Size(t.Kind)
	case sorts.Struct:
		return l.row(t.Ref).size
	}
	return 0
}

// head is what stands ahead of the root's struct.
type head [4]int

// head: what it must say.
func (l rows) head(root int) head { return head{l.row(root).size, root + 1, 1, 0} }
