package layout

import (
	"slices"

	"transom/api"
)

// In UTF-16 a sign from wide on is two units. What it is above wide has 20 bits; each unit holds unitBits of them, the higher ones first, above a base that tells which of the two it is.
const (
	wide       = 0x10000
	unitBits   = 10
	firstBase  = 0xd800
	secondBase = 0xdc00
)

// Units: a text as UTF-16.
func Units(s string) []uint16 {
	var l []uint16
	for _, sign := range s {
		if sign < wide {
			l = append(l, uint16(sign))
			continue
		}
		above := sign - wide
		l = append(l, uint16(firstBase+above>>unitBits), uint16(secondBase+above%(1<<unitBits)))
	}
	return l
}

// Sorted: a struct's fields by their names in UTF-16.
func Sorted(r api.Record) []int {
	names := make([][]uint16, len(r.Fields))
	places := make([]int, len(r.Fields))
	for i, f := range r.Fields {
		names[i] = Units(f.Name)
		places[i] = i
	}
	slices.SortStableFunc(places, func(a, b int) int { return slices.Compare(names[a], names[b]) })
	return places
}
