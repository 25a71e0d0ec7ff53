package schema

import (
	"transom/api"
	"transom/wire"
)

// Check: is it a schema? (What Make answers is.)
func Check(s api.Schema) bool {
	if !among(len(s.Structs)-1, api.MaxStructs) || len(s.Enums) > api.MaxEnums || !among(s.Root, len(s.Structs)) {
		return false
	}
	names := declared(s)
	return all(names, free) && again(names, itself) < 0 &&
		all(s.Enums, choice) &&
		all(s.Structs, func(r api.Record) bool { return record(s, r) })
}

// Fits: is a number one of a type (in no list)?
func Fits(s api.Schema, t api.Type, n uint64) bool {
	size := wire.Size(t.Kind)
	switch {
	case !number(t):
		return false
	case t.Kind == api.Bool:
		return n <= 1
	case t.Kind == api.Enum:
		return among(t.Ref, len(s.Enums)) && n < uint64(len(s.Enums[t.Ref].Names))
	case wire.Sign(t.Kind):
		return wire.Signed(n, size) == n
	}
	return n>>(8*size) == 0
}

// number: is it a number's type?
func number(t api.Type) bool { return t.Lists == 0 && wire.Size(t.Kind) > 0 }

// all: is each of them good?
func all[T any](l []T, good func(x T) bool) bool {
	for _, x := range l {
		if !good(x) {
			return false
		}
	}
	return true
}

// declared: the names of all enums and structs.
func declared(s api.Schema) []string {
	var l []string
	for _, c := range s.Enums {
		l = append(l, c.Name)
	}
	for _, r := range s.Structs {
		l = append(l, r.Name)
	}
	return l
}

// free: is it a name that a struct or an enum may have?
func free(name string) bool {
	_, taken := basic()[name]
	return named(name) && !taken
}

// choice: are an enum's values right?
func choice(c api.Choice) bool {
	return among(len(c.Names)-1, api.MaxNames) && all(c.Names, named) && again(c.Names, itself) < 0
}

// record: are a struct's fields right?
func record(s api.Schema, r api.Record) bool {
	return among(len(r.Fields)-1, api.MaxFields) &&
		all(r.Fields, func(f api.Field) bool { return field(s, f) }) &&
		again(r.Fields, func(f api.Field) string { return f.Name }) < 0
}

// field: are its label, its type and its default right?
func field(s api.Schema, f api.Field) bool {
	if !labelled(f.Name) || !typed(s, f.Type) {
		return false
	}
	if number(f.Type) {
		return Fits(s, f.Type, f.Def)
	}
	return f.Def == 0
}

// typed: is it a type of the schema's?
func typed(s api.Schema, t api.Type) bool {
	if t.Lists < 0 || t.Lists > api.MaxLists {
		return false
	}
	switch t.Kind {
	case api.Enum:
		return among(t.Ref, len(s.Enums))
	case api.Struct:
		return among(t.Ref, len(s.Structs))
	}
	return api.Bool <= t.Kind && t.Kind < api.Struct && t.Ref == 0
}
