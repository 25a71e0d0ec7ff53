package jsonwrite

import (
	"strings"

	"transom/api"
	"transom/layout"
)

// Of the schema a writer holds what is needed in memory of its own, since what is handed in isn't kept.

// record is a struct's fields, in the order in which they are put.
type record []field

// field is a struct's field: its name, the place by which a view is asked for it, and its type.
type field struct {
	name  string
	place int
	t     api.Type
}

// names are those of an enum's values, by their places.
type names []string

// recordsOf: a schema's structs.
func recordsOf(s api.Schema) []record {
	var l []record
	for _, r := range s.Structs {
		l = append(l, recordOf(r))
	}
	return l
}

// recordOf: a struct's fields.
func recordOf(r api.Record) record {
	var l record
	for _, i := range layout.Sorted(r) {
		f := r.Fields[i]
		l = append(l, field{strings.Clone(f.Name), i, f.Type})
	}
	return l
}

// choicesOf: a schema's enums.
func choicesOf(s api.Schema) []names {
	var l []names
	for _, c := range s.Enums {
		var own names
		for _, name := range c.Names {
			own = append(own, strings.Clone(name))
		}
		l = append(l, own)
	}
	return l
}

// record: a struct by its place in the schema; one of nothing, if there is none.
func (w *Writer) record(k int) record {
	if k < 0 || k >= len(w.records) {
		return nil
	}
	return w.records[k]
}

// choice: the name of an enum's value; none, if there is no such value.
func (w *Writer) choice(enum int, n uint64) string {
	if enum < 0 || enum >= len(w.choices) || n >= uint64(len(w.choices[enum])) {
		return ""
	}
	return w.choices[enum][n]
}
