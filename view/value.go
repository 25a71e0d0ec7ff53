package view

import (
	"bytes"

	"transom/api"
)

// value is what a value as a struct and one as a list have alike: kids that are told by their places.
type value struct{ api.Val }

// kid: one of nothing, where none is.
func (x value) kid(i int) value {
	if i < 0 || i >= len(x.Kids) {
		return value{}
	}
	return value{x.Kids[i]}
}

// Num: a kid's number.
func (x value) Num(i int) uint64 { return x.kid(i).Val.Num }

// Bytes: a kid's bytes, copied: who asks may write into an answer.
func (x value) Bytes(i int) []byte { return bytes.Clone(x.kid(i).Val.Bytes) }

// List: a kid that is a list.
func (x value) List(i int) Items { return list{x.kid(i)} }

// structure is a value as a struct.
type structure struct{ value }

// Sub: a field's struct; false: it isn't there.
func (x structure) Sub(f int) (View, bool) {
	kid := x.kid(f)
	if !kid.Has {
		return nil, false
	}
	return structure{kid}, true
}

// list is a value as a list.
type list struct{ value }

// Len: how many elements.
func (x list) Len() int { return len(x.Kids) }

// Sub: an element that is a struct.
func (x list) Sub(i int) View { return structure{x.kid(i)} }
