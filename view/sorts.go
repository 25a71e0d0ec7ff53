package view

import (
	"transom/api"
	"transom/wire"
)

// sort is what a type's values are made of; 0: it is no type.
type sort int

const (
	aNumber sort = iota + 1
	someBytes
	aList
	aStruct
)

// sortOf: which one a type's is.
func sortOf(t api.Type) sort {
	switch {
	case t.Lists > 0:
		return aList
	case t.Lists < 0:
		return 0
	case wire.Size(t.Kind) > 0:
		return aNumber
	case t.Kind == api.Text || t.Kind == api.Data:
		return someBytes
	case t.Kind == api.Struct:
		return aStruct
	}
	return 0
}

// element: the type of a list's elements.
func element(t api.Type) api.Type {
	t.Lists--
	return t
}

// fieldsOf: a struct's fields; false: it is no place of one.
func fieldsOf(s api.Schema, rec int) ([]api.Field, bool) {
	if rec < 0 || rec >= len(s.Structs) {
		return nil, false
	}
	return s.Structs[rec].Fields, true
}
