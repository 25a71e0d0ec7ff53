package jsonwrite_test

import (
	"encoding/hex"
	"fmt"
	"slices"
	"strings"
	"unicode/utf16"

	"transom/api"
)

// The chapter, said once more apart from the program: what the one form of a value is, however long.

// formOf: of a value of the root.
func formOf(s api.Schema, v api.Val) string {
	return valueForm(s, api.Type{Kind: api.Struct, Ref: s.Root}, v)
}

// valueForm: of a value of a type; of a struct one that is there.
func valueForm(s api.Schema, t api.Type, v api.Val) string {
	switch {
	case t.Lists > 0:
		t.Lists--
		var l []string
		for _, kid := range v.Kids {
			l = append(l, valueForm(s, t, kid))
		}
		return "[" + strings.Join(l, ",") + "]"
	case t.Kind == api.Struct:
		return structForm(s, s.Structs[t.Ref], v)
	case t.Kind == api.Text:
		return quoted(string(v.Bytes))
	case t.Kind == api.Data:
		return `"` + hex.EncodeToString(v.Bytes) + `"`
	}
	return numberForm(s, t, v.Num)
}

// structForm: the fields by their names, but for structs that aren't there.
func structForm(s api.Schema, r api.Record, v api.Val) string {
	type named struct {
		units []uint16
		form  string
	}
	var l []named
	for i, f := range r.Fields {
		if f.Type.Lists == 0 && f.Type.Kind == api.Struct && !v.Kids[i].Has {
			continue
		}
		l = append(l, named{utf16.Encode([]rune(f.Name)), quoted(f.Name) + ":" + valueForm(s, f.Type, v.Kids[i])})
	}
	slices.SortFunc(l, func(a, b named) int { return slices.Compare(a.units, b.units) })
	var parts []string
	for _, x := range l {
		parts = append(parts, x.form)
	}
	return "{" + strings.Join(parts, ",") + "}"
}

// numberForm: of a number of a type.
func numberForm(s api.Schema, t api.Type, n uint64) string {
	switch t.Kind {
	case api.Bool:
		return []string{"false", "true"}[n]
	case api.Enum:
		return `"` + s.Enums[t.Ref].Names[n] + `"`
	case api.I8:
		return fmt.Sprint(int8(n))
	case api.I16:
		return fmt.Sprint(int16(n))
	case api.I32:
		return fmt.Sprint(int32(n))
	case api.I64:
		return fmt.Sprintf(`"%d"`, int64(n))
	case api.U64:
		return fmt.Sprintf(`"%d"`, n)
	}
	return fmt.Sprint(n)
}

// shorts: bytes that have a sign of their own behind a \.
var shorts = map[byte]string{'"': `\"`, '\\': `\\`, 8: `\b`, 9: `\t`, 10: `\n`, 12: `\f`, 13: `\r`}

// quoted: a text in quotes.
func quoted(text string) string {
	var b strings.Builder
	b.WriteByte('"')
	for _, c := range []byte(text) {
		switch short, ok := shorts[c]; {
		case ok:
			b.WriteString(short)
		case c < 32:
			fmt.Fprintf(&b, `\u00%02x`, c)
		default:
			b.WriteByte(c)
		}
	}
	b.WriteByte('"')
	return b.String()
}
