package jsonread

import (
	"transom/api"
	"transom/lex"
	"transom/scan"
	"transom/wire"
)

// way goes over a value of a type, in no list.
type way func(w *walk, t api.Type) (told, bool)

// ways: by the type's kind.
type ways [api.Struct + 1]way

// allWays: all kinds have one.
func allWays() ways {
	return ways{
		api.Bool:   (*walk).boolean,
		api.I8:     (*walk).number,
		api.I16:    (*walk).number,
		api.I32:    (*walk).number,
		api.I64:    (*walk).quoted,
		api.U8:     (*walk).number,
		api.U16:    (*walk).number,
		api.U32:    (*walk).number,
		api.U64:    (*walk).quoted,
		api.Enum:   (*walk).named,
		api.Text:   (*walk).text,
		api.Data:   (*walk).data,
		api.Struct: (*walk).fields,
	}
}

// boolean: over a word.
func (w *walk) boolean(api.Type) (told, bool) {
	if w.Word("true") {
		return told{num: 1}, true
	}
	return told{}, w.Word("false")
}

// number: over one as it is.
func (w *walk) number(t api.Type) (told, bool) {
	text, ok := w.Number()
	if !ok {
		return told{}, false
	}
	return within(t, text)
}

// quoted: over a number in quotes: other readers of JSON would lose some of its bits.
func (w *walk) quoted(t api.Type) (told, bool) {
	text, ok := w.Text()
	if !ok {
		return told{}, false
	}
	return within(t, string(text))
}

// within: the number of a type that a text is.
func within(t api.Type, text string) (told, bool) {
	n, ok := lex.Number(text, wire.Size(t.Kind), wire.Sign(t.Kind))
	return told{num: n}, ok
}

// named: over the name of an enum's value.
func (w *walk) named(t api.Type) (told, bool) {
	name, ok := w.Text()
	if !ok {
		return told{}, false
	}
	place, ok := w.choice(t.Ref, string(name))
	return told{num: uint64(place)}, ok
}

// text: over one.
func (w *walk) text(api.Type) (told, bool) {
	b, ok := w.Text()
	return told{bytes: b}, ok
}

// data: over their digits.
func (w *walk) data(api.Type) (told, bool) {
	digits, ok := w.Text()
	if !ok {
		return told{}, false
	}
	b, e := scan.Undigits(digits)
	return told{bytes: b}, e == api.OK
}
