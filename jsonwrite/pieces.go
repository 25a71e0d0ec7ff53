package jsonwrite

import (
	"strconv"

	"transom/api"
	"transom/scan"
	"transom/sorts"
	"transom/wire"
)

// Put: a text as it is.
func (w *Writer) Put(s string) { w.put([]byte(s)) }

// put: bytes as they are.
func (w *Writer) put(b []byte) {
	if w.pay(len(b)) {
		w.arena.Put(b)
	}
}

// Text: a text in quotes. Its bytes are paid for as they are looked at, and once more as they are put.
func (w *Writer) Text(b []byte) {
	if !w.pay(len(b)) {
		return
	}
	w.Put(`"`)
	from := 0
	for i, c := range b {
		if sign, ok := escaped(c); ok {
			w.put(b[from:i])
			w.Put(sign)
			from = i + 1
		}
	}
	w.put(b[from:])
	w.Put(`"`)
}

// escaped: how a byte is put between quotes; false: as it is.
func escaped(c byte) (string, bool) {
	switch c {
	case '"':
		return `\"`, true
	case '\\':
		return `\\`, true
	case '\b':
		return `\b`, true
	case '\t':
		return `\t`, true
	case '\n':
		return `\n`, true
	case '\f':
		return `\f`, true
	case '\r':
		return `\r`, true
	}
	if c < ' ' {
		return `\u00` + scan.Digits([]byte{c}), true
	}
	return "", false
}

// Bytes: a text, or data.
func (w *Writer) Bytes(t api.Type, b []byte) {
	if sorts.Of(t) != sorts.Bytes {
		return
	}
	if t.Kind == api.Text {
		w.Text(b)
	} else {
		w.data(b)
	}
}

// data: their digits in quotes. They are paid for ahead of being made.
func (w *Writer) data(b []byte) {
	if w.pay(len(b)) {
		w.Put(`"` + scan.Digits(b) + `"`)
	}
}

// Num: a number of a type.
func (w *Writer) Num(t api.Type, n uint64) {
	if sorts.Of(t) != sorts.Number || !w.goes() {
		return
	}
	switch t.Kind {
	case api.Bool:
		w.Put(strconv.FormatBool(n != 0))
	case api.Enum:
		w.Text([]byte(w.choice(t.Ref, n)))
	case api.I64, api.U64: // other readers of JSON would lose some of their bits
		w.Put(`"` + decimal(t.Kind, n) + `"`)
	default:
		w.Put(decimal(t.Kind, n))
	}
}

// decimal: a number of a kind, with its sign.
func decimal(k api.Kind, n uint64) string {
	if wire.Sign(k) {
		return strconv.FormatInt(int64(n), 10)
	}
	return strconv.FormatUint(n, 10)
}
