package schema

import (
	"transom/api"
	"transom/lex"
)

// basic: what each name stands for that no struct and no enum may have; list stands for no type.
func basic() map[string]api.Type {
	return map[string]api.Type{
		"bool": {Kind: api.Bool},
		"i8":   {Kind: api.I8},
		"i16":  {Kind: api.I16},
		"i32":  {Kind: api.I32},
		"i64":  {Kind: api.I64},
		"u8":   {Kind: api.U8},
		"u16":  {Kind: api.U16},
		"u32":  {Kind: api.U32},
		"u64":  {Kind: api.U64},
		"text": {Kind: api.Text},
		"data": {Kind: api.Data},
		"list": {},
	}
}

// again: the place of the first thing whose name an earlier one has; -1: there is none.
func again[T any](l []T, name func(x T) string) int {
	first := map[string]int{}
	for i, x := range l {
		if _, ok := first[name(x)]; ok {
			return i
		}
		first[name(x)] = i
	}
	return -1
}

// itself: a name's name.
func itself(name string) string { return name }

// named: is it a name that isn't too long?
func named(text string) bool {
	return len(text) <= api.MaxName && alone(text, api.Token{Kind: api.TName, Text: text})
}

// labelled: is it what a label may be? A name may stand in quotes too.
func labelled(text string) bool {
	quoted := `"` + text + `"`
	return 0 < len(text) && len(text) <= api.MaxName && alone(quoted, api.Token{Kind: api.TQuoted, Text: text})
}

// alone: is a text just this token?
func alone(text string, want api.Token) bool {
	l, fault := lex.Tokens(text, "")
	return fault.Code == api.OK && len(l) == 2 && l[0] == want
}

// among: is it one of so many places?
func among(place, count int) bool { return 0 <= place && place < count }
