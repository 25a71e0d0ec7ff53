package jsonwrite_test

import (
	"bytes"
	"encoding/json"
	"io"
	"math/rand"
	"strconv"
	"strings"
	"testing"

	"transom/api"
	"transom/capread"
	"transom/capwrite"
	"transom/flatread"
	"transom/flatwrite"
	"transom/jsonread"
	"transom/jsonwrite"
	"transom/sbe"
	"transom/schema"
	"transom/view"
	"transom/wire"
)

// maker makes schemas and values.
type maker struct {
	*rand.Rand
	s     api.Schema
	chain bool // each struct leads to the next one, and values are deep
	room  int  // how many more kids a value may have
	wide  int  // how long lists and bytes are, mostly
}

// labels: names of fields.
var labels = []string{"x", "y", "yy", "zz", "list", "é", "a b", "x.y", "/", "😀", "ﬀ", "{}", "T", "true", "_9", "u8", "\uffff", "𐀀", "~", "€"}

// schema: of several structs, of which any leads to any.
func (m *maker) schema() {
	m.s = api.Schema{Enums: []api.Choice{{Name: "E", Names: []string{"a", "b", "c"}}, {Name: "F", Names: []string{"_"}}}}
	count := 1 + m.Intn(1<<m.Intn(5))
	m.chain = m.Intn(4) == 0
	for i := range count {
		r := api.Record{Name: "S" + strconv.Itoa(i)}
		order := m.Perm(len(labels))
		for k := range 1 + m.Intn(1<<m.Intn(5)) {
			f := api.Field{Name: labels[order[k]], Type: api.Type{Kind: api.Kind(1 + m.Intn(15)), Lists: max(0, m.Intn(8)-4)}}
			if m.chain && k == 0 {
				f.Type = api.Type{Kind: api.Struct, Lists: max(0, m.Intn(5)-3)}
			}
			switch {
			case f.Type.Kind >= api.Struct:
				f.Type.Kind, f.Type.Ref = api.Struct, m.Intn(count)
			case f.Type.Kind == api.Enum:
				f.Type.Ref = m.Intn(2)
			}
			if f.Type.Lists == 0 && f.Type.Kind <= api.Enum {
				f.Def = m.number(f.Type)
			}
			r.Fields = append(r.Fields, f)
		}
		m.s.Structs = append(m.s.Structs, r)
	}
	m.s.Root = m.Intn(count)
}

// number: one of a type, often at an edge.
func (m *maker) number(t api.Type) uint64 {
	for {
		n := m.Uint64()
		if m.Intn(4) > 0 {
			n = uint64(1)<<m.Intn(64)*uint64(m.Intn(2)) + uint64(m.Intn(3)) - 1
		}
		if m.Intn(2) == 0 {
			n = -n
		}
		if schema.Fits(m.s, t, n) {
			return n
		}
	}
}

// text: of some signs.
func (m *maker) text() string {
	var b strings.Builder
	for range m.Intn(1 + m.Intn(1+m.wide)) {
		switch m.Intn(4) {
		case 0:
			b.WriteByte(byte(m.Intn(0x80)))
		case 1:
			b.WriteString([]string{"\"", "\\", "\n", "\x00", "\x1f", "/", "\x7f", "u0041", " "}[m.Intn(9)])
		case 2:
			b.WriteString([]string{"é", "€", "😀", "\u2028", "\ufffd", "\u0080", "\uffff", "\U0010ffff"}[m.Intn(8)])
		default:
			b.WriteString("abc"[:1+m.Intn(3)])
		}
	}
	return b.String()
}

// value: of a type, where it may be so deep.
func (m *maker) value(t api.Type, room int) api.Val {
	switch {
	case t.Lists > 0:
		return m.list(t, room)
	case t.Kind == api.Struct:
		if room <= 0 || m.room <= 0 || m.Intn(6) == 0 && !m.chain {
			return none
		}
		return m.structure(t.Ref, room)
	case t.Kind == api.Text:
		return raw(m.text())
	case t.Kind == api.Data:
		b := make([]byte, m.Intn(1+m.Intn(1+m.wide)))
		m.Read(b)
		return api.Val{Bytes: b}
	}
	return api.Val{Num: m.number(t)}
}

func (m *maker) list(t api.Type, room int) api.Val {
	t.Lists--
	count := m.Intn(1 + m.Intn(1+m.wide))
	if t.Lists > 0 || t.Kind > api.Enum {
		count = m.Intn(4)
	}
	structs := t.Lists == 0 && t.Kind == api.Struct
	if room <= 0 || structs && room == 1 || m.room < count {
		return none
	}
	m.room -= count
	var v api.Val
	for range count {
		if structs {
			v.Kids = append(v.Kids, m.structure(t.Ref, room-1))
		} else {
			v.Kids = append(v.Kids, m.value(t, room-1))
		}
	}
	return v
}

// structure: one that is there; one field in four is its default, but of a chain the next one.
func (m *maker) structure(rec, room int) api.Val {
	r := m.s.Structs[rec]
	v := view.Default(r)
	m.room--
	for _, i := range m.Perm(len(r.Fields)) { // so that not always the first ones use up the room
		if m.Intn(4) > 0 || m.chain && i == 0 {
			v.Kids[i] = m.value(r.Fields[i].Type, room-1)
		}
	}
	return v
}

// checkBudget holds against it what Write answers with a smaller budget.
func (m *maker) checkBudget(t *testing.T, v api.Val) (out bool) {
	t.Helper()
	meter := wire.New(plenty)
	b, e := jsonwrite.Write(m.s, view.Of(v), meter)
	taken := plenty - meter.Left()
	if taken > 4*api.MaxOutput {
		t.Fatalf("%v: %d bytes, %d steps", m.s, len(b), taken)
	}
	budget := m.Intn(2 + taken + taken/2)
	less, f := jsonwrite.Write(m.s, view.Of(v), wire.New(budget))
	out = f == api.ErrBudget
	if out && (less != nil || budget >= taken) || !out && (f != e || string(less) != string(b)) {
		t.Fatalf("%v: error %d, with budget %d error %d", m.s, e, budget, f)
	}
	return out
}

// checkOthers holds against it what comes of the value's messages in other formats: there and back is the one form.
func checkOthers(t *testing.T, s api.Schema, v api.Val, form string) (good int) {
	t.Helper()
	for what, write := range map[string]func(api.Schema, view.View, *wire.Meter) ([]byte, api.Errno){"words": capwrite.Write, "tables": flatwrite.Write, "a row": sbe.Write} {
		read := map[string]func(api.Schema, []byte, *wire.Meter) (view.View, api.Errno){"words": capread.Read, "tables": flatread.Read, "a row": sbe.Read}[what]
		other, e := write(s, view.Of(v), wire.New(plenty))
		if e != api.OK || len(other) > api.MaxInput {
			continue
		}
		there, e := read(s, other, wire.New(plenty))
		if e != api.OK {
			t.Fatalf("%v: %s isn't read: error %d", s, what, e)
		}
		b, e := jsonwrite.Write(s, there, wire.New(plenty))
		if len(form) <= api.MaxOutput && (e != api.OK || string(b) != form) || len(form) > api.MaxOutput && e != api.ErrLarge {
			t.Fatalf("%v: of %s: error %d, %s, not %s", s, what, e, b, form)
		}
		if len(form) > api.MaxInput {
			continue
		}
		if there, e = jsonread.Read(s, b, wire.New(plenty)); e != api.OK {
			t.Fatalf("%v: a form isn't read: error %d, %s", s, e, b)
		}
		if back, e := write(s, there, wire.New(plenty)); e != api.OK || string(back) != string(other) {
			t.Fatalf("%v: back in %s: error %d, %x, not %x", s, what, e, back, other)
		}
		good++
	}
	return good
}

// checkTokens holds a form against another reader of JSON: its tokens, one behind the other, with no blanks between.
func checkTokens(t *testing.T, form string) {
	t.Helper()
	var compact bytes.Buffer
	if err := json.Compact(&compact, []byte(form)); err != nil || compact.String() != form {
		t.Fatalf("%s: %v, %s", form, err, compact.String())
	}
	d := json.NewDecoder(strings.NewReader(form))
	d.UseNumber()
	for {
		token, err := d.Token()
		if err == io.EOF {
			return
		}
		if n, ok := token.(json.Number); err != nil || token == nil || ok && (strings.ContainsAny(n.String(), ".eE") || len(n.String()) > 11) {
			t.Fatalf("%s: %v, %v", form, token, err)
		}
	}
}

// deepOf: how many structs that are there, and lists that aren't empty, stand in one another.
func deepOf(v api.Val) int {
	deep := 0
	for _, kid := range v.Kids {
		deep = max(deep, deepOf(kid))
	}
	if v.Has || len(v.Kids) > 0 {
		deep++
	}
	return deep
}

// P15.1, P15.2, P15.3, P3, P5, P6, P8: values of many schemas.
func TestManyValues(t *testing.T) {
	m := &maker{Rand: rand.New(rand.NewSource(15))}
	good, deepest, long, unread, out, others := 0, 0, 0, 0, 0, 0
	for range 900 {
		if m.schema(); !schema.Check(m.s) {
			t.Fatalf("no schema: %v", m.s)
		}
		for range 6 {
			m.room, m.wide = 30*(1+m.Intn(10)), 4<<m.Intn(6)
			if m.Intn(20) == 0 {
				m.room, m.wide = 1<<13, 1<<13
			}
			v := m.structure(m.s.Root, api.MaxNest)
			if !view.Fits(m.s, m.s.Root, v) {
				t.Fatalf("%v: a value doesn't fit", m.s)
			}
			form := formOf(m.s, v)
			checkTokens(t, form)
			switch {
			case check(t, m.s, v, form):
				long++
			case len(form) > api.MaxInput:
				unread++
			default:
				good++
				deepest += deepOf(v) / api.MaxNest
			}
			if m.checkBudget(t, v) {
				out++
			}
			others += checkOthers(t, m.s, v, form)
		}
	}
	if good < 4000 || deepest < 100 || long < 20 || unread < 20 || out < 1000 || others < 8000 {
		t.Errorf("too few: %d read back, %d of them just so deep, %d too long, %d too long to be read, %d without a budget, %d as others", good, deepest, long, unread, out, others)
	}
}

// P15.1: calls of a writer, one behind the other, of whatever types: what each of them puts alone.
func TestManyCalls(t *testing.T) {
	m := &maker{Rand: rand.New(rand.NewSource(1515))}
	calls := 0
	for range 1000 {
		m.schema()
		w := jsonwrite.New(m.s, wire.New(plenty))
		want := ""
		for range m.Intn(12) {
			m.room, m.wide = 30, 8
			x := m.s.Structs[m.Intn(len(m.s.Structs))]
			t := x.Fields[m.Intn(len(x.Fields))].Type
			v := m.value(t, api.MaxNest)
			if t.Kind == api.Struct && t.Lists == 0 && !v.Has {
				continue
			}
			switch {
			case t.Lists > 0:
				w.List(t, items(v.Kids...))
			case t.Kind == api.Struct:
				w.Record(t.Ref, view.Of(v))
			case t.Kind >= api.Text:
				w.Bytes(t, v.Bytes)
			default:
				w.Num(t, v.Num)
			}
			want += valueForm(m.s, t, v) + ","
			w.Put(",")
			text := m.text()
			w.Text([]byte(text))
			want += quoted(text)
			calls++
		}
		wantDone(t, "calls", w, want)
	}
	if calls < 3000 {
		t.Errorf("%d calls", calls)
	}
}
