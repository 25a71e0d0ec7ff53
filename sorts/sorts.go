// Package sorts tells what a type's values are made of: all layers that go by types ask it (section 'Words' of shared/DOC.md).
package sorts

import (
	"transom/api"
	"transom/wire"
)

// Sort is what a type's values are made of; 0: it is no type.
type Sort int

// The sorts.
const (
	Number Sort = iota + 1
	Bytes
	List
	Struct
)

// Of: which one a type's is.
func Of(t api.Type) Sort {
	switch {
	case t.Lists > 0:
		return List
	case t.Lists < 0:
		return 0
	case wire.Size(t.Kind) > 0:
		return Number
	case t.Kind == api.Text || t.Kind == api.Data:
		return Bytes
	case t.Kind == api.Struct:
		return Struct
	}
	return 0
}

// Element: the type of a list's elements.
func Element(t api.Type) api.Type {
	t.Lists--
	return t
}
