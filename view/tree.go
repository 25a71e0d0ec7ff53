package view

import (
	"bytes"

	"transom/api"
	"transom/sorts"
)

// Tree: a view as a value, of a struct of a schema.
func Tree(s api.Schema, rec int, v View) api.Val {
	tree, _ := structTree(s, rec, v, api.MaxNest)
	return tree
}

// structTree: a struct that may be so deep. (false: there is none, or it is deeper; a view that leads back into itself has no end.)
func structTree(s api.Schema, rec int, v View, room int) (api.Val, bool) {
	fields, ok := fieldsOf(s, rec)
	if !ok || v == nil || room == 0 {
		return api.Val{}, false
	}
	kids := make([]api.Val, len(fields))
	for i, f := range fields {
		if kids[i], ok = kidTree(s, f.Type, v, i, room-1); !ok {
			return api.Val{}, false
		}
	}
	return api.Val{Has: true, Kids: kids}, true
}

// listTree: a list that may be so deep.
func listTree(s api.Schema, t api.Type, l Items, room int) (api.Val, bool) {
	var tree api.Val
	for i := range length(l) {
		if room == 0 {
			return api.Val{}, false
		}
		kid, ok := kidTree(s, t, elements{l}, i, room-1)
		if !ok {
			return api.Val{}, false
		}
		tree.Kids = append(tree.Kids, kid)
	}
	return tree, true
}

// kidTree: a field or an element of a type.
func kidTree(s api.Schema, t api.Type, v View, i, room int) (api.Val, bool) {
	switch sorts.Of(t) {
	case sorts.Number:
		return api.Val{Num: v.Num(i)}, true
	case sorts.Bytes:
		return api.Val{Bytes: bytes.Clone(v.Bytes(i))}, true
	case sorts.List:
		return listTree(s, sorts.Element(t), v.List(i), room)
	case sorts.Struct:
		if sub, there := v.Sub(i); there {
			return structTree(s, t.Ref, sub, room)
		}
	}
	return api.Val{}, true
}

// elements are a list, asked as if they were fields: all are there.
type elements struct{ Items }

// Sub: an element that is a struct.
func (l elements) Sub(i int) (View, bool) { return l.Items.Sub(i), true }
