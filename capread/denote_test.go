package capread_test

import (
	"encoding/binary"

	"transom/api"
	"transom/view"
)

// The chapter, said once more apart from the program: a message as a value, bit by bit.

// none is what is thrown where a message denotes nothing.
type none struct{}

func must(ok bool) {
	if !ok {
		panic(none{})
	}
}

// denoted: the value of a message; false: it denotes none.
func denoted(s api.Schema, b []byte) (v api.Val, ok bool) {
	defer func() {
		if thrown := recover(); thrown != nil {
			if _, is := thrown.(none); !is {
				panic(thrown)
			}
			v, ok = api.Val{}, false
		}
	}()
	must(len(b) <= 16384 && len(b) >= 16 && len(b)%8 == 0)
	must(binary.LittleEndian.Uint64(b) == uint64(len(b)/8-1)<<32)
	d := &denoter{s: s, b: b[8:], room: len(b)/8 - 1}
	d.words = d.room
	must(d.number(0, 64) != 0)
	v = d.pointed(0, api.Type{Kind: api.Struct, Ref: s.Root})
	return v, view.Fits(s, s.Root, v) // how deep it is, UTF-8, and the places of enums' values
}

// denoter goes through a message's words; room is what may still be reached.
type denoter struct {
	s           api.Schema
	b           []byte
	words, room int
}

// number: of so many bits, from one on.
func (d *denoter) number(at, width int) uint64 {
	var n uint64
	for i := range width {
		n |= uint64(d.b[(at+i)/8]>>((at+i)%8)&1) << i
	}
	return n
}

// part: a number of some bits of a word.
func (d *denoter) part(word, first, behind int) int {
	return int(d.number(64*word+first, behind-first))
}

func (d *denoter) reach(words int) {
	d.room -= max(1, words)
	must(d.room >= 0)
}

// pointed: what the pointer in a word is of.
func (d *denoter) pointed(word int, t api.Type) api.Val {
	if d.number(64*word, 64) == 0 {
		return api.Val{}
	}
	kind, place := d.part(word, 0, 2), word+1+d.part(word, 2, 31)-d.part(word, 31, 32)<<29
	must(kind < 2 && place >= 0 && place <= d.words)
	if kind == 0 {
		nums, ptrs := d.part(word, 32, 48), d.part(word, 48, 64)
		must(place+nums+ptrs <= d.words && t.Lists == 0 && t.Kind == api.Struct)
		d.reach(nums + ptrs)
		return d.structure(t.Ref, place, nums, ptrs)
	}
	code, count := d.part(word, 32, 35), d.part(word, 35, 64)
	if code == 7 {
		must(place+1+count <= d.words && t.Lists == 1 && t.Kind == api.Struct)
		return d.structures(t.Ref, place, count)
	}
	bits := []int{0, 1, 8, 16, 32, 64, 64}[code]
	words := (bits*count + 63) / 64
	must(place+words <= d.words)
	d.reach(words)
	if t.Lists == 0 {
		must(code == 2 && (t.Kind == api.Text || t.Kind == api.Data))
		return d.bytes(place, count, t.Kind == api.Text)
	}
	t.Lists--
	var v api.Val
	if t.Lists > 0 || t.Kind == api.Text || t.Kind == api.Data {
		must(code == 6)
		for i := range count {
			v.Kids = append(v.Kids, d.pointed(place+i, t))
		}
		return v
	}
	must(t.Kind != api.Struct && code != 6 && bits == widthOf(t))
	for i := range count {
		v.Kids = append(v.Kids, api.Val{Num: signed(t, d.number(64*place+bits*i, bits))})
	}
	return v
}

// structures: a list of structs.
func (d *denoter) structures(rec, place, count int) api.Val {
	kind, n, nums, ptrs := d.part(place, 0, 2), d.part(place, 2, 32), d.part(place, 32, 48), d.part(place, 48, 64)
	must(kind == 0 && n < 1<<29 && n*(nums+ptrs) == count)
	d.room--
	var v api.Val
	for range n {
		d.reach(nums + ptrs)
	}
	for i := range n {
		v.Kids = append(v.Kids, d.structure(rec, place+1+i*(nums+ptrs), nums, ptrs))
	}
	must(d.room >= 0)
	return v
}

func (d *denoter) bytes(place, count int, text bool) api.Val {
	b := d.b[8*place : 8*place+count]
	if text {
		must(count > 0 && b[count-1] == 0)
		b = b[:count-1]
	}
	return api.Val{Bytes: b}
}

// structure: fields, each at its place.
func (d *denoter) structure(rec, place, nums, ptrs int) api.Val {
	v := api.Val{Has: true}
	fields := d.s.Structs[rec].Fields
	for i, f := range fields {
		at := placeOf(fields, i)
		width := widthOf(f.Type)
		switch {
		case width == 0 && at < ptrs:
			v.Kids = append(v.Kids, d.pointed(place+nums+at, f.Type))
		case width == 0:
			v.Kids = append(v.Kids, api.Val{})
		case at+width <= 64*nums:
			v.Kids = append(v.Kids, api.Val{Num: signed(f.Type, d.number(64*place+at, width)^f.Def)})
		default:
			v.Kids = append(v.Kids, api.Val{Num: f.Def})
		}
	}
	return v
}

// widths: of numbers, in bits.
var widths = [256]int{api.Bool: 1, api.I8: 8, api.U8: 8, api.I16: 16, api.U16: 16, api.Enum: 16, api.I32: 32, api.U32: 32, api.I64: 64, api.U64: 64}

// widthOf: a number's bits; 0: it is none.
func widthOf(t api.Type) int {
	if t.Lists > 0 {
		return 0
	}
	return widths[t.Kind]
}

// placeOf: a field's first bit among the numbers, or its place among the pointers.
func placeOf(fields []api.Field, i int) int {
	at, width := 0, widthOf(fields[i].Type)
	for k, f := range fields {
		w := widthOf(f.Type)
		switch {
		case width == 0 && w == 0 && k < i:
			at++
		case width > 0 && (w > width || w == width && k < i):
			at += w
		}
	}
	return at
}

// signed: the lowest bits of a number, as a number of its type.
func signed(t api.Type, n uint64) uint64 {
	width := widthOf(t)
	n = n << (64 - width) >> (64 - width)
	if t.Kind >= api.I8 && t.Kind <= api.I64 && n>>(width-1) == 1 && width < 64 {
		n -= 1 << width
	}
	return n
}
