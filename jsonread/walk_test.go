package jsonread_test

import (
	"encoding/hex"
	"math/rand"
	"strconv"
	"strings"
	"testing"
	"unicode/utf16"

	"transom/api"
	"transom/jsonread"
	"transom/view"
	"transom/wire"
)

// maker makes schemas, values, and texts that denote them.
type maker struct {
	*rand.Rand
	s     api.Schema
	chain bool // each struct leads to the next one, and values are deep
	room  int  // how many more kids a value may have
}

// labels: names of fields, in quotes where they must be.
var labels = []string{"x", "y", "zz", "list", "é", "a b", "x.y", "/", "😀", "{}", "T", "true", "1", "_9", "u8", "null"}

// schema: of several structs, of which any leads to any.
func (m *maker) schema() {
	m.s = api.Schema{Enums: []api.Choice{{Name: "E", Names: []string{"a", "b", "c"}}, {Name: "F", Names: []string{"a"}}}}
	count := 1 + m.Intn(1<<m.Intn(5))
	m.chain = m.Intn(4) == 0
	for i := range count {
		r := api.Record{Name: "S" + strconv.Itoa(i)}
		order := m.Perm(len(labels))
		for k := range 1 + m.Intn(1<<m.Intn(5)) {
			f := api.Field{Name: labels[order[k]], Type: api.Type{Kind: api.Kind(1 + m.Intn(15)), Lists: max(0, m.Intn(8)-4)}}
			if m.chain && k == 0 {
				f.Type = api.Type{Kind: api.Struct, Lists: max(0, m.Intn(5)-3)}
			}
			switch {
			case f.Type.Kind >= api.Struct:
				f.Type.Kind, f.Type.Ref = api.Struct, m.Intn(count)
			case f.Type.Kind == api.Enum:
				f.Type.Ref = m.Intn(2)
			}
			if f.Type.Lists == 0 && f.Type.Kind <= api.Enum {
				f.Def = m.number(f.Type)
			}
			r.Fields = append(r.Fields, f)
		}
		m.s.Structs = append(m.s.Structs, r)
	}
	m.s.Root = m.Intn(count)
}

// number: one of a type, often at an edge.
func (m *maker) number(t api.Type) uint64 {
	switch t.Kind {
	case api.Enum:
		return uint64(m.Intn(len(m.s.Enums[t.Ref].Names)))
	case api.Bool:
		return uint64(m.Intn(2))
	}
	n := m.Uint64()
	if m.Intn(2) == 0 {
		n = uint64(1)<<m.Intn(64)*uint64(m.Intn(2)) + uint64(m.Intn(3)) - 1
	}
	x := bounds[t.Kind]
	if x.sign {
		return uint64(int64(n<<(64-x.bits)) >> (64 - x.bits))
	}
	return n << (64 - x.bits) >> (64 - x.bits)
}

// value: of a type, where it may be so deep.
func (m *maker) value(t api.Type, room int) api.Val {
	switch {
	case t.Lists > 0:
		return m.list(t, room)
	case t.Kind == api.Struct:
		if room <= 0 || m.room <= 0 || m.Intn(6) == 0 && !m.chain {
			return none
		}
		return m.structure(t.Ref, room)
	case t.Kind == api.Text:
		var b strings.Builder
		for range m.Intn(6) {
			b.WriteString([]string{"a", "é", "€", "😀", "\x00", "\"", "\\", "\n", "/", "\x7f", "u00", "\ufffd"}[m.Intn(12)])
		}
		return raw(b.String())
	case t.Kind == api.Data:
		b := make([]byte, m.Intn(5))
		m.Read(b)
		return api.Val{Bytes: b}
	}
	return api.Val{Num: m.number(t)}
}

func (m *maker) list(t api.Type, room int) api.Val {
	t.Lists--
	count := m.Intn(4)
	structs := t.Lists == 0 && t.Kind == api.Struct
	if room <= 0 || structs && room == 1 || m.room < count {
		return none
	}
	m.room -= count
	var v api.Val
	for range count {
		if structs {
			v.Kids = append(v.Kids, m.structure(t.Ref, room-1))
		} else {
			v.Kids = append(v.Kids, m.value(t, room-1))
		}
	}
	return v
}

// structure: one that is there; one field in four is its default, but of a chain the next one.
func (m *maker) structure(rec, room int) api.Val {
	r := m.s.Structs[rec]
	v := view.Default(r)
	m.room--
	for i, f := range r.Fields {
		if m.Intn(4) > 0 || m.chain && i == 0 {
			v.Kids[i] = m.value(f.Type, room-1)
		}
	}
	return v
}

// text: some text of a value, as a list of pieces.
func (m *maker) text(t api.Type, v api.Val) []string {
	switch {
	case t.Lists > 0:
		t.Lists--
		var parts [][]string
		for _, kid := range v.Kids {
			parts = append(parts, m.text(t, kid))
		}
		return m.row("[", parts, "]")
	case t.Kind == api.Struct:
		var parts [][]string
		r := m.s.Structs[t.Ref]
		for _, i := range m.Perm(len(r.Fields)) {
			f, kid := r.Fields[i], v.Kids[i]
			same := same(kid, view.Default(r).Kids[i])
			if same && (f.Type.Lists == 0 && f.Type.Kind == api.Struct || m.Intn(2) == 0) {
				continue
			}
			parts = append(parts, append([]string{m.quoted(f.Name), ":"}, m.text(f.Type, kid)...))
		}
		return m.row("{", parts, "}")
	case t.Kind == api.Text:
		return []string{m.quoted(string(v.Bytes))}
	case t.Kind == api.Data:
		return []string{m.quoted(hex.EncodeToString(v.Bytes))}
	case t.Kind == api.Enum:
		return []string{m.quoted(m.s.Enums[t.Ref].Names[v.Num])}
	case t.Kind == api.Bool:
		return []string{strconv.FormatBool(v.Num == 1)}
	}
	text := strconv.FormatUint(v.Num, 10)
	if bounds[t.Kind].sign {
		text = strconv.FormatInt(int64(v.Num), 10)
	}
	if bounds[t.Kind].bits == 64 {
		text = m.quoted(text)
	}
	return []string{text}
}

// row: parts with commas between.
func (m *maker) row(first string, parts [][]string, last string) []string {
	l := []string{first}
	for i, part := range parts {
		if i > 0 {
			l = append(l, ",")
		}
		l = append(l, part...)
	}
	return append(l, last)
}

// quoted: a text in quotes, in which some signs are escaped, in some way.
func (m *maker) quoted(text string) string {
	often := 1 + m.Intn(20)
	b := []byte{'"'}
	for _, r := range text {
		short := strings.IndexRune("\"\\/\b\f\n\r\t", r)
		switch {
		case short >= 0 && (r < ' ' || r == '"' || r == '\\' || m.Intn(often) == 0) && m.Intn(4) > 0:
			b = append(b, '\\', "\"\\/bfnrt"[short])
		case r < ' ' || r == '"' || r == '\\' || m.Intn(often) == 0:
			for _, unit := range utf16.Encode([]rune{r}) {
				digits := strconv.FormatInt(0x10000+int64(unit), 16)[1:]
				if m.Intn(2) == 0 {
					digits = strings.ToUpper(digits)
				}
				b = append(b, "\\u"+digits...)
			}
		default:
			b = append(b, string(r)...)
		}
	}
	return string(append(b, '"'))
}

// spaced: pieces with some blanks ahead and behind.
func (m *maker) spaced(l []string) string {
	often := 1 + m.Intn(10)
	var b strings.Builder
	for i := range len(l) + 1 {
		for m.Intn(often+1) == 0 {
			b.WriteByte(" \t\n\r"[m.Intn(4)])
		}
		if i < len(l) {
			b.WriteString(l[i])
		}
	}
	return b.String()
}

// others: pieces that may be there instead of some.
var others = []string{"null", "0", "1", "-1", `""`, `"0"`, `"a"`, "{", "}", "[", "]", ",", ":", "true", "256", "2147483648", `"18446744073709551616"`, `"-9223372036854775809"`, "-129", `"0A"`, "1.5", "00"}

// spoilt: pieces, one of which is left out, said twice, changed, or taken for another one.
func (m *maker) spoilt(l []string) []string {
	l = append([]string{}, l...)
	at, other := m.Intn(len(l)), m.Intn(len(l))
	switch m.Intn(7) {
	case 0:
		return append(l[:at], l[at+1:]...)
	case 1:
		return append(l[:at+1], append([]string{l[other]}, l[at+1:]...)...)
	case 2:
		l[at], l[other] = l[other], l[at]
	case 3:
		l[at] = l[other]
	case 4:
		l[at] = others[m.Intn(len(others))]
	case 5: // a byte within
		const bytes = "\"\\{}[]:,019-aAuetn \x00\x1f\x80\xff"
		b := []byte(l[at])
		b[m.Intn(len(b))] = bytes[m.Intn(len(bytes))]
		l[at] = string(b)
	case 6:
		return l[:at]
	}
	return l
}

// check holds Read against what the text denotes; does it denote anything?
func (m *maker) check(t *testing.T, text string) bool {
	t.Helper()
	want, ok := denoted(m.s, text)
	v, e := jsonread.Read(m.s, []byte(text), wire.New(plenty))
	switch {
	case !ok && (e != api.ErrMalformed || v != nil):
		t.Fatalf("%v: %s: error %d, %v", m.s, text, e, v)
	case ok && e != api.OK:
		t.Fatalf("%v: %s: error %d, not %v", m.s, text, e, want)
	case ok && !same(view.Tree(m.s, m.s.Root, v), want):
		t.Fatalf("%v: %s: %v, not %v", m.s, text, view.Tree(m.s, m.s.Root, v), want)
	}
	budget := m.Intn(2 * (len(text) + 20))
	if _, less := jsonread.Read(m.s, []byte(text), wire.New(budget)); less != e && less != api.ErrBudget {
		t.Fatalf("%v: %s: error %d, with budget %d error %d", m.s, text, e, budget, less)
	}
	return ok
}

// deepOf: how deep a value is.
func deepOf(v api.Val) int {
	deep := 0
	for _, kid := range v.Kids {
		deep = max(deep, deepOf(kid))
	}
	if v.Has || len(v.Kids) > 0 {
		deep++
	}
	return deep
}

// P14.1, P3, P4, P5: texts of many schemas, in many forms, as they are and with something changed.
func TestManyTexts(t *testing.T) {
	m := &maker{Rand: rand.New(rand.NewSource(1414))}
	good, tooDeep, spoilt, still := 0, 0, 0, 0
	for range 1500 {
		m.schema()
		for range 3 {
			m.room = 20
			root := api.Type{Kind: api.Struct, Ref: m.s.Root}
			v := m.structure(m.s.Root, api.MaxNest+m.Intn(3)) // sometimes deeper than may be
			fits := deepOf(v) <= api.MaxNest
			for range 2 {
				pieces := m.text(root, v)
				text := m.spaced(pieces)
				if len(text) > api.MaxInput {
					continue
				}
				if want, ok := denoted(m.s, text); ok != fits || ok && !same(want, v) {
					t.Fatalf("%v: %s: %v, not %v", m.s, text, want, v)
				}
				m.check(t, text)
				if fits {
					good++
				} else {
					tooDeep++
				}
				for range 6 {
					if m.check(t, m.spaced(m.spoilt(pieces))) {
						still++
					} else {
						spoilt++
					}
				}
			}
		}
	}
	if good < 6000 || tooDeep < 50 || spoilt < 20000 || still < 2000 {
		t.Errorf("too few: %d good, %d too deep, %d spoilt, %d spoilt that are some", good, tooDeep, spoilt, still)
	}
}
