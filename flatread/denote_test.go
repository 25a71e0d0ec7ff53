package flatread_test

import (
	"transom/api"
	"transom/view"
)

// The chapter, said once more apart from the program: a message as a value, byte by byte.

// none is what is thrown where a message denotes nothing.
type none struct{}

func must(ok bool) {
	if !ok {
		panic(none{})
	}
}

// denoted: the value of a message; false: it denotes none.
func denoted(s api.Schema, b []byte) (v api.Val, ok bool) {
	defer func() {
		if thrown := recover(); thrown != nil {
			if _, is := thrown.(none); !is {
				panic(thrown)
			}
			v, ok = api.Val{}, false
		}
	}()
	must(len(b) <= 16384)
	d := &denoter{s: s, b: b, room: len(b)}
	v = d.value(0, api.Type{Kind: api.Struct, Ref: s.Root})
	return v, view.Fits(s, s.Root, v) // how deep it is, UTF-8, bools, and the places of enums' values
}

// denoter goes through a message's bytes; room is what may still be reached.
type denoter struct {
	s    api.Schema
	b    []byte
	room int
}

// number: of so many bytes, at a place.
func (d *denoter) number(at, size int) uint64 {
	must(at >= 0 && at+size <= len(d.b))
	var n uint64
	for i := size - 1; i >= 0; i-- {
		n = n<<8 + uint64(d.b[at+i])
	}
	return n
}

func (d *denoter) reach(size int) {
	d.room -= size
	must(d.room >= 0)
}

// value: of a type, that stands at a place: a number itself, of others what it points to.
func (d *denoter) value(at int, t api.Type) api.Val {
	if size := sizeOf(t); size > 0 {
		return api.Val{Num: signed(t, d.number(at, size))}
	}
	place := at + int(d.number(at, 4))
	must(place <= len(d.b))
	switch {
	case t.Lists > 0:
		t.Lists--
		return d.list(place, t)
	case t.Kind == api.Struct:
		return d.table(place, d.s.Structs[t.Ref])
	}
	return d.bytes(place, t.Kind == api.Text)
}

func (d *denoter) table(at int, r api.Record) api.Val {
	back := int(d.number(at, 4))
	if back >= 1<<31 {
		back -= 1 << 32
	}
	list := at - back
	listSize, size := int(d.number(list, 2)), int(d.number(list+2, 2))
	must(listSize%2 == 0 && listSize >= 4 && size >= 4 && list+listSize <= len(d.b) && at+size <= len(d.b))
	d.reach(listSize + size)
	v := api.Val{Has: true}
	for i, f := range r.Fields {
		place := 0
		if i < (listSize-4)/2 {
			place = int(d.number(list+4+2*i, 2))
		}
		kid := api.Val{Num: f.Def}
		if place > 0 {
			must(place >= 4 && place+max(sizeOf(f.Type), 4*pointing(f.Type)) <= size)
			kid = d.value(at+place, f.Type)
		}
		v.Kids = append(v.Kids, kid)
	}
	return v
}

func (d *denoter) list(at int, t api.Type) api.Val {
	count := int(d.number(at, 4))
	size := max(sizeOf(t), 4*pointing(t))
	must(at+4+count*size <= len(d.b))
	d.reach(4 + count*size)
	var v api.Val
	for i := range count {
		v.Kids = append(v.Kids, d.value(at+4+i*size, t))
	}
	return v
}

func (d *denoter) bytes(at int, text bool) api.Val {
	count := int(d.number(at, 4))
	must(at+4+count <= len(d.b))
	d.reach(4 + count)
	if text {
		must(d.number(at+4+count, 1) == 0)
		d.reach(1)
	}
	return api.Val{Bytes: d.b[at+4 : at+4+count]}
}

// kindSizes: of numbers, in bytes.
var kindSizes = [256]int{api.Bool: 1, api.I8: 1, api.U8: 1, api.Enum: 1, api.I16: 2, api.U16: 2, api.I32: 4, api.U32: 4, api.I64: 8, api.U64: 8}

// sizeOf: a number's bytes; 0: it is none.
func sizeOf(t api.Type) int {
	if t.Lists > 0 {
		return 0
	}
	return kindSizes[t.Kind]
}

// pointing: 1 of types whose values are pointed to, else 0.
func pointing(t api.Type) int {
	if sizeOf(t) > 0 {
		return 0
	}
	return 1
}

// signed: a number's lowest bytes, as a number of its type.
func signed(t api.Type, n uint64) uint64 {
	width := 8 * sizeOf(t)
	n = n << (64 - width) >> (64 - width)
	if t.Kind >= api.I8 && t.Kind <= api.I64 && n>>(width-1) == 1 && width < 64 {
		n -= 1 << width
	}
	return n
}
