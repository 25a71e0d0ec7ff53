package jsonread_test

import (
	"math/big"
	"regexp"
	"strconv"
	"strings"
	"unicode/utf16"
	"unicode/utf8"

	"transom/api"
	"transom/view"
)

// The chapter, said once more apart from the program: a text is cut into pieces by patterns, and these are gone over.

// nothing is what is thrown where a text denotes nothing.
type nothing struct{}

func must(ok bool) {
	if !ok {
		panic(nothing{})
	}
}

var (
	pieces  = regexp.MustCompile(`^[ \t\r\n]*([{}\[\]:,]|true|false|-?[0-9]+|"(?:[^"\\\x00-\x1f]|\\["\\/bfnrt]|\\u[0-9a-fA-F]{4})*")`)
	blanks  = regexp.MustCompile(`^[ \t\r\n]*$`)
	escapes = regexp.MustCompile(`\\u....|\\.|[^\\]`)
	whole   = regexp.MustCompile(`^(0|-?[1-9][0-9]*)$`)
	digits  = regexp.MustCompile(`^([0-9a-f]{2})*$`)
)

// denoted: the value of a text; false: it denotes none.
func denoted(s api.Schema, text string) (v api.Val, ok bool) {
	defer func() {
		if thrown := recover(); thrown != nil {
			if _, is := thrown.(nothing); !is {
				panic(thrown)
			}
			v, ok = api.Val{}, false
		}
	}()
	must(len(text) <= 16384 && utf8.ValidString(text))
	d := &denoter{s: s}
	for !blanks.MatchString(text) {
		at := pieces.FindStringSubmatchIndex(text)
		must(at != nil)
		d.rest = append(d.rest, text[at[2]:at[3]])
		text = text[at[3]:]
	}
	v = d.value(api.Type{Kind: api.Struct, Ref: s.Root})
	must(len(d.rest) == 0)
	return v, view.Fits(s, s.Root, v) // how deep it is
}

// denoter takes pieces.
type denoter struct {
	s    api.Schema
	rest []string
}

func (d *denoter) next() string {
	must(len(d.rest) > 0)
	piece := d.rest[0]
	d.rest = d.rest[1:]
	return piece
}

// is: is that piece next? It is taken.
func (d *denoter) is(piece string) bool {
	if len(d.rest) == 0 || d.rest[0] != piece {
		return false
	}
	d.next()
	return true
}

func (d *denoter) value(t api.Type) api.Val {
	switch {
	case t.Lists > 0:
		t.Lists--
		return d.list(t)
	case t.Kind == api.Struct:
		return d.structure(d.s.Structs[t.Ref])
	case t.Kind == api.Bool:
		piece := d.next()
		must(piece == "true" || piece == "false")
		if piece == "true" {
			return api.Val{Num: 1}
		}
		return api.Val{}
	case t.Kind == api.Text:
		return api.Val{Bytes: []byte(meaning(d.next()))}
	case t.Kind == api.Data:
		text := meaning(d.next())
		must(digits.MatchString(text))
		var v api.Val
		for i := 0; i < len(text); i += 2 {
			n, _ := strconv.ParseUint(text[i:i+2], 16, 8)
			v.Bytes = append(v.Bytes, byte(n))
		}
		return v
	case t.Kind == api.Enum:
		text := meaning(d.next())
		for i, name := range d.s.Enums[t.Ref].Names {
			if name == text {
				return api.Val{Num: uint64(i)}
			}
		}
		panic(nothing{})
	case t.Kind == api.I64 || t.Kind == api.U64:
		return api.Val{Num: number(meaning(d.next()), t.Kind)}
	}
	return api.Val{Num: number(d.next(), t.Kind)}
}

func (d *denoter) list(t api.Type) api.Val {
	var v api.Val
	must(d.is("["))
	for !d.is("]") {
		must(len(v.Kids) == 0 || d.is(","))
		v.Kids = append(v.Kids, d.value(t))
	}
	return v
}

func (d *denoter) structure(r api.Record) api.Val {
	v := api.Val{Has: true}
	for _, f := range r.Fields {
		v.Kids = append(v.Kids, api.Val{Num: f.Def})
	}
	said := map[string]bool{}
	must(d.is("{"))
	for !d.is("}") {
		must(len(said) == 0 || d.is(","))
		name := meaning(d.next())
		must(!said[name] && d.is(":"))
		said[name] = true
		found := false
		for i, f := range r.Fields {
			if f.Name == name {
				found = true
				v.Kids[i] = d.value(f.Type)
			}
		}
		must(found)
	}
	return v
}

// bounds: of kinds of numbers: how many bits, the one of the sign among them.
var bounds = map[api.Kind]struct {
	bits uint
	sign bool
}{api.I8: {8, true}, api.I16: {16, true}, api.I32: {32, true}, api.I64: {64, true}, api.U8: {8, false}, api.U16: {16, false}, api.U32: {32, false}, api.U64: {64, false}}

// number: what a text says, of a kind.
func number(text string, k api.Kind) uint64 {
	must(whole.MatchString(text))
	n, ok := new(big.Int).SetString(text, 10)
	must(ok)
	x := bounds[k]
	first, behind := new(big.Int), new(big.Int).Lsh(big.NewInt(1), x.bits)
	if x.sign {
		behind.Rsh(behind, 1)
		first.Neg(behind)
	}
	must(n.Cmp(first) >= 0 && n.Cmp(behind) < 0)
	if n.Sign() < 0 {
		return uint64(n.Int64())
	}
	return n.Uint64()
}

// meaning: of a text in quotes: all of it as units of UTF-16, and no half of one alone.
func meaning(piece string) string {
	must(strings.HasPrefix(piece, `"`))
	var units []uint16
	for _, sign := range escapes.FindAllString(piece[1:len(piece)-1], -1) {
		switch {
		case strings.HasPrefix(sign, `\u`):
			n, _ := strconv.ParseUint(sign[2:], 16, 16)
			units = append(units, uint16(n))
		case sign[0] == '\\':
			c := map[byte]uint16{'"': '"', '\\': '\\', '/': '/', 'b': 8, 'f': 12, 'n': 10, 'r': 13, 't': 9}[sign[1]]
			units = append(units, c)
		default:
			r, _ := utf8.DecodeRuneInString(sign)
			units = utf16.AppendRune(units, r)
		}
	}
	for i := 0; i < len(units); i++ {
		switch units[i] >> 10 {
		case 0xd800 >> 10:
			must(i+1 < len(units) && units[i+1]>>10 == 0xdc00>>10)
			i++
		case 0xdc00 >> 10:
			panic(nothing{})
		}
	}
	return string(utf16.Decode(units))
}
