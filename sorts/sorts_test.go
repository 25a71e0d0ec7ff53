package sorts_test

import (
	"math"
	"testing"

	"transom/api"
	"transom/sorts"
)

// DOC.md, Words: number, bytes, struct, list.
func TestOf(t *testing.T) {
	for k := range 256 {
		kind := api.Kind(k)
		var want sorts.Sort
		switch {
		case api.Bool <= kind && kind <= api.Enum:
			want = sorts.Number
		case kind == api.Text, kind == api.Data:
			want = sorts.Bytes
		case kind == api.Struct:
			want = sorts.Struct
		}
		if got := sorts.Of(api.Type{Kind: kind, Ref: 7}); got != want {
			t.Errorf("kind %d: %d, not %d", k, got, want)
		}
		for _, lists := range []int{1, 2, api.MaxLists} {
			if got := sorts.Of(api.Type{Kind: kind, Lists: lists}); got != sorts.List {
				t.Errorf("kind %d in %d lists: %d", k, lists, got)
			}
		}
		for _, lists := range []int{-1, math.MinInt} {
			if got := sorts.Of(api.Type{Kind: kind, Lists: lists}); got != 0 {
				t.Errorf("kind %d in %d lists: %d", k, lists, got)
			}
		}
	}
}

// DOC.md, Words: elements have the type with one list less.
func TestElement(t *testing.T) {
	for lists := 1; lists <= api.MaxLists; lists++ {
		list := api.Type{Kind: api.Struct, Ref: 3, Lists: lists}
		if got := sorts.Element(list); got != (api.Type{Kind: api.Struct, Ref: 3, Lists: lists - 1}) {
			t.Errorf("%v: %v", list, got)
		}
		if list.Lists != lists {
			t.Error("changed")
		}
	}
}
