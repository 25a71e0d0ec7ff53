package flatread

import "transom/wire"

// A table has a head, where it tells its list; the list begins with its own size and the table's. Fields stand behind the head, and their places behind these sizes.
const (
	head  = 4
	short = 2 // bytes of a size, and of a field's place
	sizes = 2 * short
)

// table is a table that was read: where it and its list stand, and how many bytes each has.
type table struct {
	at, size         int
	listAt, listSize int
}

// tableAt: the one at a place; false: there is none.
func (m *message) tableAt(at int) (table, bool) {
	back, ok := wire.Load(m.b, at, head)
	if !ok {
		return table{}, false
	}
	listAt := at - int(int32(back))
	ofList, _ := wire.Load(m.b, listAt, short)
	ofTable, _ := wire.Load(m.b, listAt+short, short)
	t := table{at: at, size: int(ofTable), listAt: listAt, listSize: int(ofList)}
	return t, t.sized() && wire.Within(m.b, at, t.size) && wire.Within(m.b, listAt, t.listSize)
}

// sized: are these sizes that a table and its list may have?
func (t table) sized() bool {
	return t.size >= head && t.listSize >= sizes && t.listSize%short == 0
}

// fieldAt: where in a table a field stands; 0: it isn't there.
func (m *message) fieldAt(t table, f int) int {
	at := sizes + short*f
	if at >= t.listSize {
		return 0
	}
	n, _ := wire.Load(m.b, t.listAt+at, short)
	return int(n)
}

// holds: do so many bytes, from a place in a table on, stand within it, behind its head?
func (t table) holds(at, size int) bool { return at >= head && at+size <= t.size }
