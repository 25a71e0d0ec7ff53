package schema

import "transom/api"

// Loops: does a struct come back to itself, over fields, from the root on?
func Loops(s api.Schema) bool {
	if !among(s.Root, len(s.Structs)) {
		return false
	}
	ways := make([]int, len(s.Structs)) // to each struct: into the root, and over the fields of those that were gone into
	all := walk(s, func(place int) bool {
		ways[place]++
		return ways[place] == 1
	})
	// Now a struct is gone into once no other way to it is left: on a loop, and behind one, there always is one.
	free := walk(s, func(place int) bool {
		ways[place]--
		return ways[place] == 0
	})
	return free < all
}

// walk goes into structs, the root and those on that fields lead to, where into says so; it tells how many.
func walk(s api.Schema, into func(place int) bool) int {
	count := 0
	var later []int
	var enter func(place, deep int)
	enter = func(place, deep int) {
		if deep == api.MaxStructs { // what is no schema may be deeper than Go's stack
			later = append(later, place)
			return
		}
		count++
		for _, f := range s.Structs[place].Fields {
			if f.Type.Kind == api.Struct && among(f.Type.Ref, len(s.Structs)) && into(f.Type.Ref) {
				enter(f.Type.Ref, deep+1)
			}
		}
	}
	if into(s.Root) {
		enter(s.Root, 0)
	}
	for len(later) > 0 {
		place := later[len(later)-1]
		later = later[:len(later)-1]
		enter(place, 0)
	}
	return count
}
