package sbe_test

import (
	"math/rand"
	"strconv"
	"strings"
	"testing"

	"transom/api"
	"transom/capread"
	"transom/capwrite"
	"transom/flatread"
	"transom/flatwrite"
	"transom/sbe"
	"transom/schema"
	"transom/view"
	"transom/wire"
)

// P12.1, P12.2, said once more apart from the program: what the one form of a value is, however long; and what a message denotes.

// kindSizes: of numbers, in bytes.
var kindSizes = map[api.Kind]int{api.Bool: 1, api.I8: 1, api.U8: 1, api.Enum: 1, api.I16: 2, api.U16: 2, api.I32: 4, api.U32: 4, api.I64: 8, api.U64: 8}

// sizeOf: a number's bytes; 0: it is none.
func sizeOf(t api.Type) int {
	if t.Lists > 0 {
		return 0
	}
	return kindSizes[t.Kind]
}

// numbersOf: the bytes of an element's numbers.
func numbersOf(s api.Schema, t api.Type) int {
	if t.Lists > 0 || t.Kind != api.Struct {
		return sizeOf(t)
	}
	sum := 0
	for _, f := range s.Structs[t.Ref].Fields {
		sum += sizeOf(f.Type)
	}
	return sum
}

// turn: when a field stands in a struct: 0 numbers, 1 groups, 2 bytes.
func turn(t api.Type) int {
	switch {
	case sizeOf(t) > 0:
		return 0
	case t.Lists > 0 || t.Kind == api.Struct:
		return 1
	}
	return 2
}

// formOf: the one form of a value of the root.
func formOf(s api.Schema, v api.Val) string {
	var b strings.Builder
	b.WriteString(head(numbersOf(s, api.Type{Kind: api.Struct, Ref: s.Root}), s.Root))
	structForm(&b, s, s.Root, v)
	return b.String()
}

func structForm(b *strings.Builder, s api.Schema, rec int, v api.Val) {
	for now := range 3 {
		for i, f := range s.Structs[rec].Fields {
			if turn(f.Type) == now {
				fieldForm(b, s, f.Type, v.Kids[i])
			}
		}
	}
}

func fieldForm(b *strings.Builder, s api.Schema, t api.Type, v api.Val) {
	switch {
	case t.Lists > 0:
		t.Lists--
		b.WriteString(short(numbersOf(s, t), len(v.Kids)))
		for _, kid := range v.Kids {
			if t.Lists == 0 && t.Kind == api.Struct {
				structForm(b, s, t.Ref, kid)
			} else {
				fieldForm(b, s, t, kid)
			}
		}
	case t.Kind == api.Struct && !v.Has:
		b.WriteString(short(numbersOf(s, t), 0))
	case t.Kind == api.Struct:
		b.WriteString(short(numbersOf(s, t), 1))
		structForm(b, s, t.Ref, v)
	case sizeOf(t) > 0:
		b.WriteString(sized(sizeOf(t), int(v.Num)))
	default:
		b.WriteString(short(len(v.Bytes)))
		b.Write(v.Bytes)
	}
}

// nothing is what is thrown where a message denotes nothing.
type nothing struct{}

func must(ok bool) {
	if !ok {
		panic(nothing{})
	}
}

// denoter cuts pieces off a message.
type denoter struct {
	s    api.Schema
	rest string
}

// denoted: the value of a message; false: it denotes none.
func denoted(s api.Schema, form string) (v api.Val, ok bool) {
	defer func() {
		if thrown := recover(); thrown != nil {
			if _, is := thrown.(nothing); !is {
				panic(thrown)
			}
			v, ok = api.Val{}, false
		}
	}()
	must(len(form) <= 16384)
	d := &denoter{s: s, rest: form}
	must(d.cut(8) == head(numbersOf(s, api.Type{Kind: api.Struct, Ref: s.Root}), s.Root))
	v = d.structure(s.Root)
	must(d.rest == "")
	return v, view.Fits(s, s.Root, v) // how deep it is, UTF-8, bools, and the places of enums' values
}

func (d *denoter) cut(n int) string {
	must(n <= len(d.rest))
	piece := d.rest[:n]
	d.rest = d.rest[n:]
	return piece
}

func (d *denoter) number(size int) uint64 {
	var n uint64
	for i, c := range []byte(d.cut(size)) {
		n += uint64(c) << (8 * i)
	}
	return n
}

func (d *denoter) structure(rec int) api.Val {
	fields := d.s.Structs[rec].Fields
	v := api.Val{Has: true, Kids: make([]api.Val, len(fields))}
	for now := range 3 {
		for i, f := range fields {
			if turn(f.Type) == now {
				v.Kids[i] = d.field(f.Type)
			}
		}
	}
	return v
}

func (d *denoter) field(t api.Type) api.Val {
	var v api.Val
	switch {
	case t.Lists > 0:
		t.Lists--
		must(d.number(2) == uint64(numbersOf(d.s, t)))
		for range d.number(2) {
			if t.Lists == 0 && t.Kind == api.Struct {
				v.Kids = append(v.Kids, d.structure(t.Ref))
			} else {
				v.Kids = append(v.Kids, d.field(t))
			}
		}
	case t.Kind == api.Struct:
		must(d.number(2) == uint64(numbersOf(d.s, t)))
		count := d.number(2)
		must(count <= 1)
		if count == 1 {
			v = d.structure(t.Ref)
		}
	case sizeOf(t) > 0:
		v.Num = signed(t, d.number(sizeOf(t)))
	default:
		v.Bytes = []byte(d.cut(int(d.number(2))))
	}
	return v
}

// signed: a number's lowest bytes, as a number of its type.
func signed(t api.Type, n uint64) uint64 {
	width := 64 - 8*kindSizes[t.Kind]
	if api.I8 <= t.Kind && t.Kind <= api.I64 {
		return uint64(int64(n<<width) >> width)
	}
	return n << width >> width
}

// maker makes schemas, values and messages.
type maker struct {
	*rand.Rand
	s     api.Schema
	chain bool // each struct leads to the next one, and values are deep
	room  int  // how many more kids a value may have
	wide  int  // how long lists and bytes are, mostly
}

// schema: of several structs, each of which leads to later ones alone; the root isn't always the first.
func (m *maker) schema() {
	m.s = api.Schema{Enums: []api.Choice{{Name: "E", Names: []string{"a", "b", "c"}}, {Name: "F", Names: []string{"a"}}}}
	count := 1 + m.Intn(1<<m.Intn(5))
	if m.chain = m.Intn(4) == 0; m.chain {
		count = 5 + m.Intn(api.MaxStructs-4)
	}
	for i := range count {
		r := api.Record{Name: "S" + strconv.Itoa(i)}
		for k := range 1 + m.Intn(1<<m.Intn(5)) {
			f := api.Field{Name: "x" + strconv.Itoa(k), Type: api.Type{Kind: api.Kind(1 + m.Intn(17)), Lists: max(0, m.Intn(8)-4)}}
			switch {
			case m.chain && k == 0 && i < count-1:
				f.Type = api.Type{Kind: api.Struct, Ref: i + 1, Lists: max(0, m.Intn(5)-3)}
			case f.Type.Kind >= api.Struct && i < count-1:
				f.Type.Kind, f.Type.Ref = api.Struct, i+1+m.Intn(count-1-i)
			case f.Type.Kind >= api.Struct:
				f.Type.Kind = api.Text
			}
			if f.Type.Kind == api.Enum {
				f.Type.Ref = m.Intn(2)
			}
			if sizeOf(f.Type) > 0 {
				f.Def = m.number(f.Type)
			}
			r.Fields = append(r.Fields, f)
		}
		m.s.Structs = append(m.s.Structs, r)
	}
	m.s.Root = m.Intn(1 + m.Intn(count))
	m.turnOver()
}

// turnOver: sometimes structs lead to earlier ones alone.
func (m *maker) turnOver() {
	if m.Intn(2) == 0 {
		return
	}
	last := len(m.s.Structs) - 1
	other := api.Schema{Enums: m.s.Enums, Root: last - m.s.Root}
	for i := range m.s.Structs {
		r := m.s.Structs[last-i]
		for k, f := range r.Fields {
			if f.Type.Kind == api.Struct {
				r.Fields[k].Type.Ref = last - f.Type.Ref
			}
		}
		other.Structs = append(other.Structs, r)
	}
	m.s = other
}

// number: one of a type, often at an edge.
func (m *maker) number(t api.Type) uint64 {
	switch t.Kind {
	case api.Enum:
		return uint64(m.Intn(len(m.s.Enums[t.Ref].Names)))
	case api.Bool:
		return uint64(m.Intn(2))
	}
	n := m.Uint64()
	if m.Intn(2) == 0 {
		n = uint64(1)<<m.Intn(64)*uint64(m.Intn(2)) + uint64(m.Intn(3)) - 1
	}
	return signed(t, n)
}

// text: so many bytes of UTF-8, or a few less.
func (m *maker) text(most int) string {
	var b strings.Builder
	for {
		x := []string{"a", "é", "€", "😀", "\x00", "z"}[m.Intn(6)]
		if b.Len()+len(x) > most {
			return b.String()
		}
		b.WriteString(x)
	}
}

// value: of a type, where it may be so deep.
func (m *maker) value(t api.Type, room int) api.Val {
	switch {
	case t.Lists > 0:
		return m.list(t, room)
	case t.Kind == api.Struct:
		if room <= 0 || m.room <= 0 || m.Intn(6) == 0 && !m.chain {
			return api.Val{}
		}
		return m.structure(t.Ref, room)
	case t.Kind == api.Text:
		return raw(m.text(m.Intn(1 + m.Intn(1+m.wide))))
	case t.Kind == api.Data:
		b := make([]byte, m.Intn(1+m.Intn(1+m.wide)))
		m.Read(b)
		return api.Val{Bytes: b}
	}
	return api.Val{Num: m.number(t)}
}

func (m *maker) list(t api.Type, room int) api.Val {
	t.Lists--
	count := m.Intn(1 + m.Intn(1+m.wide))
	if sizeOf(t) == 0 {
		count = m.Intn(5)
	}
	if m.chain {
		count = min(count, 1+m.Intn(2))
	}
	structs := t.Lists == 0 && t.Kind == api.Struct
	if room <= 0 || structs && room == 1 || m.room < count {
		return api.Val{}
	}
	m.room -= count
	var v api.Val
	for range count {
		if structs {
			v.Kids = append(v.Kids, m.structure(t.Ref, room-1))
		} else {
			v.Kids = append(v.Kids, m.value(t, room-1))
		}
	}
	return v
}

// structure: one that is there; one field in four is its default, but of a chain the next one.
func (m *maker) structure(rec, room int) api.Val {
	m.room--
	v := view.Default(m.s.Structs[rec])
	for _, i := range m.Perm(len(v.Kids)) { // so that not always the first ones use up the room
		if m.Intn(4) > 0 || m.chain && i == 0 {
			v.Kids[i] = m.value(m.s.Structs[rec].Fields[i].Type, room-1)
		}
	}
	return v
}

// check holds what Write answers of a value against the chapter: the form, or that it is too long; and what Read answers of the form.
func check(t *testing.T, s api.Schema, v api.Val, want string) (long bool) {
	t.Helper()
	b, e := sbe.Write(s, view.Of(v), wire.New(plenty))
	long = len(want) > api.MaxOutput
	switch {
	case long && (e != api.ErrLarge || b != nil):
		t.Fatalf("%v: %d bytes: error %d, %d bytes", s, len(want), e, len(b))
	case !long && (e != api.OK || string(b) != want):
		t.Fatalf("%v: error %d, %s", s, e, differ(string(b), want))
	case !long && len(want) <= api.MaxInput:
		wantRead(t, "a form", s, want, v)
	case !long:
		wantNone(t, "a long form", s, want)
	}
	return long
}

// checkBudget holds against it what Write answers with a smaller budget.
func (m *maker) checkBudget(t *testing.T, v api.Val) (out bool) {
	t.Helper()
	meter := wire.New(plenty)
	b, e := sbe.Write(m.s, view.Of(v), meter)
	taken := plenty - meter.Left()
	budget := m.Intn(2 + taken + taken/2)
	less, f := sbe.Write(m.s, view.Of(v), wire.New(budget))
	out = f == api.ErrBudget
	if out && (less != nil || budget >= taken) || !out && (f != e || string(less) != string(b)) {
		t.Fatalf("%v: error %d, with budget %d error %d, %s", m.s, e, budget, f, differ(string(less), string(b)))
	}
	return out
}

// checkOthers holds against it what comes of the value's messages in other formats: there and back is the one form.
func checkOthers(t *testing.T, s api.Schema, v api.Val, form string) (good int) {
	t.Helper()
	for _, x := range []struct {
		write func(api.Schema, view.View, *wire.Meter) ([]byte, api.Errno)
		read  func(api.Schema, []byte, *wire.Meter) (view.View, api.Errno)
	}{{capwrite.Write, capread.Read}, {flatwrite.Write, flatread.Read}} {
		other, e := x.write(s, view.Of(v), wire.New(plenty))
		if e != api.OK || len(other) > api.MaxInput {
			continue
		}
		there, e := x.read(s, other, wire.New(plenty))
		if e != api.OK {
			t.Fatalf("%v: another format's message isn't read: error %d", s, e)
		}
		b, e := sbe.Write(s, there, wire.New(plenty))
		if len(form) <= api.MaxOutput && (e != api.OK || string(b) != form) || len(form) > api.MaxOutput && e != api.ErrLarge {
			t.Fatalf("%v: of another format's message: error %d, %s", s, e, differ(string(b), form))
		}
		if len(form) > api.MaxInput {
			continue
		}
		if there, e = sbe.Read(s, b, wire.New(plenty)); e != api.OK {
			t.Fatalf("%v: a form isn't read: error %d", s, e)
		}
		if back, e := x.write(s, there, wire.New(plenty)); e != api.OK || string(back) != string(other) {
			t.Fatalf("%v: back: error %d, %s", s, e, differ(string(back), string(other)))
		}
		good++
	}
	return good
}

// deepOf: how many structs that are there, and lists that aren't empty, stand in one another.
func deepOf(v api.Val) int {
	deep := 0
	for _, kid := range v.Kids {
		deep = max(deep, deepOf(kid))
	}
	if v.Has || len(v.Kids) > 0 {
		deep++
	}
	return deep
}

// P12.1, P12.2, P3, P5, P6, P8: values of many schemas.
func TestManyValues(t *testing.T) {
	m := &maker{Rand: rand.New(rand.NewSource(12))}
	good, deepest, long, unread, out, others := 0, 0, 0, 0, 0, 0
	for range 1500 {
		if m.schema(); !schema.Check(m.s) || schema.Loops(m.s) {
			t.Fatalf("no schema, or one that loops: %v", m.s)
		}
		for range 6 {
			m.room, m.wide = 30*(1+m.Intn(20)), 4<<m.Intn(8)
			if m.Intn(30) == 0 {
				m.room, m.wide = 1<<14, 1<<15
			}
			v := m.structure(m.s.Root, api.MaxNest)
			if !view.Fits(m.s, m.s.Root, v) {
				t.Fatalf("%v: a value doesn't fit", m.s)
			}
			form := formOf(m.s, v)
			switch {
			case check(t, m.s, v, form):
				long++
			case len(form) > api.MaxInput:
				unread++
			default:
				good++
				deepest += deepOf(v) / api.MaxNest
			}
			if m.checkBudget(t, v) {
				out++
			}
			others += checkOthers(t, m.s, v, form)
		}
	}
	if good < 5000 || deepest < 100 || long < 20 || unread < 20 || out < 1000 || others < 10000 {
		t.Errorf("too few: %d read back, %d of them just so deep, %d too long, %d too long to be read, %d without a budget, %d as others", good, deepest, long, unread, out, others)
	}
}

// spoilt: a message with something changed.
func (m *maker) spoilt(form string) string {
	b := []byte(form)
	at := m.Intn(len(b))
	switch m.Intn(8) {
	case 0, 1:
		b[at] ^= 1 << m.Intn(8)
	case 2:
		b[at] = byte(m.Intn(4))
	case 3:
		b[at] += byte(1 - 2*m.Intn(2))
	case 4:
		b[at] = byte(m.Intn(256))
	case 5:
		behind := min(len(b), at+1+m.Intn(4))
		b = append(b[:at:at], b[behind:]...)
	case 6:
		more := make([]byte, 1+m.Intn(4))
		b = append(append(b[:at:at], more...), form[at:]...)
	case 7:
		other := m.Intn(len(b))
		b[at], b[other] = b[other], b[at]
	}
	return string(b)
}

// checkRead holds what Read answers of a message against the chapter: its value, or nothing; and that it is written as just its bytes.
func (m *maker) checkRead(t *testing.T, form string) bool {
	t.Helper()
	want, ok := denoted(m.s, form)
	meter := wire.New(1000 + 100*(len(form)+8)*8) // what is enough of the shortest schema and request
	v, e := sbe.Read(m.s, []byte(form), meter)
	switch {
	case !ok && (e != api.ErrMalformed || v != nil):
		t.Fatalf("%v: %x: error %d, %v", m.s, form, e, v)
	case ok && (e != api.OK || !same(view.Tree(m.s, m.s.Root, v), want)):
		t.Fatalf("%v: %x: error %d, %v, not %v", m.s, form, e, v, want)
	case ok:
		if b, e := sbe.Write(m.s, v, wire.New(plenty)); e != api.OK || string(b) != form {
			t.Fatalf("%v: %x: written: error %d, %s", m.s, form, e, differ(string(b), form))
		}
	}
	budget := m.Intn(1 + meter.Left())
	if m.Intn(2) == 0 {
		budget = m.Intn(50)
	}
	if _, less := sbe.Read(m.s, []byte(form), wire.New(budget)); less != e && less != api.ErrBudget {
		t.Fatalf("%v: %x: error %d, with budget %d error %d", m.s, form, e, budget, less)
	}
	return ok
}

// P12.1, P12.2, P3, P4, P5: messages of many schemas, as they are and with something changed.
func TestManyMessages(t *testing.T) {
	m := &maker{Rand: rand.New(rand.NewSource(1212))}
	good, tooDeep, spoilt, still := 0, 0, 0, 0
	for range 1500 {
		m.schema()
		for range 4 {
			m.room, m.wide = 20, 8
			v := m.structure(m.s.Root, api.MaxNest+m.Intn(3)) // sometimes deeper than may be
			form := formOf(m.s, v)
			fits := deepOf(v) <= api.MaxNest
			if len(form) > api.MaxInput {
				continue
			}
			if m.checkRead(t, form) != fits {
				t.Fatalf("%v: %x: %v", m.s, form, v)
			}
			if fits {
				good++
			} else {
				tooDeep++
			}
			was := form
			for range 12 {
				if m.Intn(2) == 0 || form == "" {
					form = was
				}
				form = m.spoilt(form)
				if m.checkRead(t, form) {
					still++
				} else {
					spoilt++
				}
			}
		}
	}
	if good < 4000 || tooDeep < 20 || spoilt < 20000 || still < 8000 {
		t.Errorf("too few: %d good, %d too deep, %d spoilt, %d spoilt that are some", good, tooDeep, spoilt, still)
	}
}
