package view

import (
	"transom/api"
	"transom/schema"
	"transom/sorts"
	"transom/wire"
)

// Fits: is a value one of a struct, and no deeper than may be?
func Fits(s api.Schema, rec int, v api.Val) bool {
	return v.Has && fits(s, api.Type{Kind: api.Struct, Ref: rec}, v, api.MaxNest)
}

// fits: is a value one of a type, where it may be so deep?
func fits(s api.Schema, t api.Type, v api.Val, room int) bool {
	of := sorts.Of(t)
	if !bare(of, v) {
		return false
	}
	switch of {
	case sorts.Number:
		return schema.Fits(s, t, v.Num)
	case sorts.Bytes:
		return t.Kind == api.Data || wire.Utf8(v.Bytes) < 0
	case sorts.List:
		return listFits(s, sorts.Element(t), v.Kids, room)
	case sorts.Struct:
		return !v.Has || structFits(s, t.Ref, v.Kids, room)
	}
	return false
}

// bare: is nothing set in a value but what its type has?
func bare(of sorts.Sort, v api.Val) bool {
	return (of == sorts.Number || v.Num == 0) &&
		(of == sorts.Bytes || len(v.Bytes) == 0) &&
		(of == sorts.List || v.Has || len(v.Kids) == 0) &&
		(of == sorts.Struct || !v.Has)
}

// listFits: are elements all of a type? An empty list isn't deep.
func listFits(s api.Schema, t api.Type, kids []api.Val, room int) bool {
	for _, kid := range kids {
		missing := sorts.Of(t) == sorts.Struct && !kid.Has
		if room == 0 || missing || !fits(s, t, kid, room-1) {
			return false
		}
	}
	return true
}

// structFits: are fields those of a struct?
func structFits(s api.Schema, rec int, kids []api.Val, room int) bool {
	fields, ok := fieldsOf(s, rec)
	if !ok || room == 0 || len(kids) != len(fields) {
		return false
	}
	for i, f := range fields {
		if !fits(s, f.Type, kids[i], room-1) {
			return false
		}
	}
	return true
}

// fieldsOf: a struct's fields; false: it is no place of one.
func fieldsOf(s api.Schema, rec int) ([]api.Field, bool) {
	if rec < 0 || rec >= len(s.Structs) {
		return nil, false
	}
	return s.Structs[rec].Fields, true
}
