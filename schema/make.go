package schema

import (
	"slices"
	"strings"

	"transom/api"
	"transom/lex"
	"transom/wire"
)

// maker makes a schema of what is written, step by step; each step trusts those before it.
type maker struct {
	raw   api.Raw
	names map[string]api.Type // what each name stands for, of those that are known by now
	made  api.Schema
}

// enums: all enums, with their values.
func (m *maker) enums() api.Fault {
	for i, x := range m.raw.Enums {
		t := api.Type{Kind: api.Enum, Ref: i}
		if fault := m.declare(x.Name, x.At, t, i < api.MaxEnums && among(len(x.Names)-1, api.MaxNames)); fault.Code != api.OK {
			return fault
		}
		if twice := again(x.Names, func(n api.Token) string { return n.Text }); twice >= 0 {
			return api.Fault{Code: api.ErrTwice, At: x.Names[twice].At}
		}
		c := api.Choice{Name: strings.Clone(x.Name)}
		for _, n := range x.Names {
			c.Names = append(c.Names, strings.Clone(n.Text))
		}
		m.made.Enums = append(m.made.Enums, c)
	}
	return api.Fault{}
}

// structs: all structs, without their fields: a type may stand ahead of the struct that it names.
func (m *maker) structs() api.Fault {
	for i, x := range m.raw.Structs {
		t := api.Type{Kind: api.Struct, Ref: i}
		if fault := m.declare(x.Name, x.At, t, i < api.MaxStructs && among(len(x.Fields)-1, api.MaxFields)); fault.Code != api.OK {
			return fault
		}
		if twice := again(x.Fields, func(f api.RawField) string { return f.Name }); twice >= 0 {
			return api.Fault{Code: api.ErrTwice, At: x.Fields[twice].At}
		}
		m.made.Structs = append(m.made.Structs, api.Record{Name: strings.Clone(x.Name)})
	}
	return api.Fault{}
}

// declare: what a new name stands for; few: neither it nor what it holds is more, or less, than may be.
func (m *maker) declare(name string, at int, t api.Type, few bool) api.Fault {
	if _, ok := m.names[name]; ok {
		return api.Fault{Code: api.ErrTwice, At: at}
	}
	if !few {
		return api.Fault{Code: api.ErrMany, At: at}
	}
	m.names[name] = t
	return api.Fault{}
}

// fields: those of all structs.
func (m *maker) fields() api.Fault {
	for i, x := range m.raw.Structs {
		for _, w := range x.Fields {
			f, fault := m.field(w)
			if fault.Code != api.OK {
				return fault
			}
			m.made.Structs[i].Fields = append(m.made.Structs[i].Fields, f)
		}
	}
	return api.Fault{}
}

// field: one, of what is written.
func (m *maker) field(w api.RawField) (api.Field, api.Fault) {
	t := m.names[w.Type.Name]
	if t.Kind == 0 {
		return api.Field{}, api.Fault{Code: api.ErrType, At: w.Type.At}
	}
	t.Lists = w.Type.Lists
	def, ok := m.value(t, w.Def)
	if !ok {
		return api.Field{}, api.Fault{Code: api.ErrValue, At: w.Def.At}
	}
	return api.Field{Name: strings.Clone(w.Name), Type: t, Def: def}, api.Fault{}
}

// value: the number of a type that a token says; 0, if there is none.
func (m *maker) value(t api.Type, w api.Token) (uint64, bool) {
	switch {
	case w.Kind == api.TEnd:
		return 0, true
	case t.Lists != 0:
		return 0, false
	case t.Kind == api.Bool:
		return choose(w, []string{"false", "true"})
	case t.Kind == api.Enum:
		return choose(w, m.made.Enums[t.Ref].Names)
	case w.Kind == api.TNumber:
		return lex.Number(w.Text, wire.Size(t.Kind), wire.Sign(t.Kind)) // of other kinds there is no size, and no number
	}
	return 0, false
}

// choose: the place of a token's name among names; false: it has none.
func choose(w api.Token, names []string) (uint64, bool) {
	place := slices.Index(names, w.Text)
	if w.Kind != api.TName || place < 0 {
		return 0, false
	}
	return uint64(place), true
}

// root: which struct is the whole.
func (m *maker) root() api.Fault {
	l := m.raw.Roots
	if len(l) == 0 {
		return api.Fault{Code: api.ErrRoot}
	}
	if len(l) > 1 {
		return api.Fault{Code: api.ErrTwice, At: l[1].At}
	}
	t := m.names[l[0].Text]
	if t.Kind != api.Struct {
		return api.Fault{Code: api.ErrRoot, At: l[0].At}
	}
	m.made.Root = t.Ref
	return api.Fault{}
}
