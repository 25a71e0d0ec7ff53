package jsonread

import (
	"strings"

	"transom/api"
	"transom/scan"
	"transom/wire"
)

// message is what all views of a message share. Of the schema it holds what is needed in memory of its own, since only the bytes may be kept.
type message struct {
	b       []byte
	records []record
	choices []names
	ways    ways
}

// record is a struct of the schema: its fields, and their places by their names.
type record struct {
	fields []field
	names  names
}

// field is a struct's field.
type field struct {
	t   api.Type
	def uint64
}

// names have places: a struct's fields, or an enum's values.
type names map[string]int

// newMessage: bytes, of a schema.
func newMessage(s api.Schema, b []byte) *message {
	m := &message{b: b, ways: allWays()}
	for _, r := range s.Structs {
		m.records = append(m.records, recordOf(r))
	}
	for _, c := range s.Enums {
		places := names{}
		for i, name := range c.Names {
			places.add(name, i)
		}
		m.choices = append(m.choices, places)
	}
	return m
}

// recordOf: a struct's.
func recordOf(r api.Record) record {
	x := record{names: names{}}
	for i, f := range r.Fields {
		x.fields = append(x.fields, field{f.Type, f.Def})
		x.names.add(f.Name, i)
	}
	return x
}

// add: a name's place. The name is copied: none that was handed in is kept.
func (l names) add(name string, place int) { l[strings.Clone(name)] = place }

// record: a struct's by its place in the schema; false: there is none.
func (m *message) record(rec int) (record, bool) {
	if rec < 0 || rec >= len(m.records) {
		return record{}, false
	}
	return m.records[rec], true
}

// choice: the place of an enum's value by its name; false: there is none.
func (m *message) choice(enum int, name string) (int, bool) {
	if enum < 0 || enum >= len(m.choices) {
		return 0, false
	}
	place, ok := m.choices[enum][name]
	return place, ok
}

// from: what stands from a place on, gone over by a meter.
func (m *message) from(at int, meter *wire.Meter) *walk {
	return &walk{message: m, Scanner: scan.New(m.b, at, meter), meter: meter, room: api.MaxNest}
}
