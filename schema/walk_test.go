package schema_test

import (
	"math/big"
	"math/rand"
	"reflect"
	"slices"
	"strconv"
	"strings"
	"testing"

	"transom/api"
	"transom/idl"
	"transom/schema"
)

// P5.1, said once more apart from the program: all faults of what is written, each with its rank; the one with the lowest rank is the answer.

type ranked struct {
	rank  []int
	fault api.Fault
}

// faults gathers them.
type faults []ranked

func (l *faults) add(is bool, code api.Errno, at int, rank ...int) {
	if is {
		*l = append(*l, ranked{rank, api.Fault{Code: code, At: at}})
	}
}

// first: the one with the lowest rank.
func (l faults) first() api.Fault {
	if len(l) == 0 {
		return api.Fault{}
	}
	return slices.MinFunc(l, func(a, b ranked) int { return slices.Compare(a.rank, b.rank) }).fault
}

var basics = strings.Fields("- bool i8 i16 i32 i64 u8 u16 u32 u64 - text data")

func isBasic(name string) bool { return name != "-" && slices.Contains(basics, name) }

func structNames(r api.Raw) (l []string) {
	for _, x := range r.Structs {
		l = append(l, x.Name)
	}
	return l
}

func enumNames(r api.Raw) (l []string) {
	for _, x := range r.Enums {
		l = append(l, x.Name)
	}
	return l
}

func valueNames(e api.RawChoice) (l []string) {
	for _, x := range e.Names {
		l = append(l, x.Text)
	}
	return l
}

func labels(s api.RawRecord) (l []string) {
	for _, x := range s.Fields {
		l = append(l, x.Name)
	}
	return l
}

// bounds: the least and the greatest number of a basic name.
func bounds(name string) (*big.Int, *big.Int) {
	bits, err := strconv.Atoi(name[1:])
	if err != nil {
		return nil, nil
	}
	one := big.NewInt(1)
	if name[0] == 'u' {
		return new(big.Int), new(big.Int).Sub(new(big.Int).Lsh(one, uint(bits)), one)
	}
	half := new(big.Int).Lsh(one, uint(bits-1))
	return new(big.Int).Neg(half), new(big.Int).Sub(half, one)
}

// meant: the number that stands behind = of a field, whose type is one; false: it is none.
func meant(r api.Raw, f api.RawField) (uint64, bool) {
	if f.Def.Kind == api.TEnd {
		return 0, true
	}
	name := f.Type.Name
	place := slices.Index(enumNames(r), name)
	switch {
	case f.Type.Lists > 0:
		return 0, false
	case name == "bool":
		value := slices.Index([]string{"false", "true"}, f.Def.Text)
		return uint64(value), value >= 0
	case place >= 0:
		value := slices.Index(valueNames(r.Enums[place]), f.Def.Text)
		return uint64(value), value >= 0
	case !isBasic(name) || name == "text" || name == "data" || f.Def.Kind != api.TNumber:
		return 0, false
	}
	least, most := bounds(name)
	n, _ := new(big.Int).SetString(f.Def.Text, 10)
	if n.Cmp(least) < 0 || n.Cmp(most) > 0 {
		return 0, false
	}
	return new(big.Int).And(n, new(big.Int).SetUint64(1<<64-1)).Uint64(), true
}

// allFaults of what is written.
func allFaults(r api.Raw) faults {
	var l faults
	enums, structs := enumNames(r), structNames(r)
	for i, e := range r.Enums {
		taken := isBasic(e.Name) || e.Name == "list" || slices.Contains(enums[:i], e.Name)
		l.add(taken, api.ErrTwice, e.At, 0, i, 0)
		l.add(i >= 8 || len(e.Names) < 1 || len(e.Names) > 32, api.ErrMany, e.At, 0, i, 1)
		for j, n := range e.Names {
			l.add(slices.Contains(valueNames(e)[:j], n.Text), api.ErrTwice, n.At, 0, i, 2, j)
		}
	}
	for i, s := range r.Structs {
		taken := isBasic(s.Name) || s.Name == "list" || slices.Contains(enums, s.Name) || slices.Contains(structs[:i], s.Name)
		l.add(taken, api.ErrTwice, s.At, 1, i, 0)
		l.add(i >= 16 || len(s.Fields) < 1 || len(s.Fields) > 16, api.ErrMany, s.At, 1, i, 1)
		for j, f := range s.Fields {
			l.add(slices.Contains(labels(s)[:j], f.Name), api.ErrTwice, f.At, 1, i, 2, j)
			known := isBasic(f.Type.Name) || slices.Contains(enums, f.Type.Name) || slices.Contains(structs, f.Type.Name)
			l.add(!known, api.ErrType, f.Type.At, 2, i, j, 0)
			_, ok := meant(r, f)
			l.add(!ok, api.ErrValue, f.Def.At, 2, i, j, 1)
		}
	}
	l.add(len(r.Roots) == 0, api.ErrRoot, 0, 3)
	if len(r.Roots) > 1 {
		l.add(true, api.ErrTwice, r.Roots[1].At, 4)
	}
	if len(r.Roots) > 0 {
		l.add(!slices.Contains(structs, r.Roots[0].Text), api.ErrRoot, r.Roots[0].At, 5)
	}
	return l
}

// typeOf: what is meant by a type, of a raw schema without faults.
func typeOf(r api.Raw, t api.RawType) api.Type {
	if place := slices.Index(enumNames(r), t.Name); place >= 0 {
		return api.Type{Kind: api.Enum, Ref: place, Lists: t.Lists}
	}
	if place := slices.Index(structNames(r), t.Name); place >= 0 {
		return api.Type{Kind: api.Struct, Ref: place, Lists: t.Lists}
	}
	return api.Type{Kind: api.Kind(slices.Index(basics, t.Name)), Lists: t.Lists}
}

// meaning: of a raw schema without faults.
func meaning(r api.Raw) api.Schema {
	s := api.Schema{Root: slices.Index(structNames(r), r.Roots[0].Text)}
	for _, e := range r.Enums {
		s.Enums = append(s.Enums, api.Choice{Name: e.Name, Names: valueNames(e)})
	}
	for _, x := range r.Structs {
		one := api.Record{Name: x.Name}
		for _, f := range x.Fields {
			def, _ := meant(r, f)
			one.Fields = append(one.Fields, api.Field{Name: f.Name, Type: typeOf(r, f.Type), Def: def})
		}
		s.Structs = append(s.Structs, one)
	}
	return s
}

// pick: one of some words.
func pick(d *rand.Rand, words string) string {
	l := strings.Fields(words)
	return l[d.Intn(len(l))]
}

// rarely: mostly one text, sometimes another one.
func rarely(d *rand.Rand, times int, other, mostly string) string {
	if d.Intn(times) == 0 {
		return other
	}
	return mostly
}

// made: a schema's text, mostly a right one, of parts in any order.
func made(d *rand.Rand) string {
	var parts []string
	enums, structs := d.Intn(4), 1+d.Intn(3)
	if d.Intn(60) == 0 {
		enums, structs = 7+d.Intn(3), 15+d.Intn(3)
	}
	for i := range enums {
		parts = append(parts, "enum "+rarely(d, 15, pick(d, "E0 E1 S0 u8 list data"), "E"+strconv.Itoa(i))+" {"+madeValues(d)+"}")
	}
	for i := range structs {
		parts = append(parts, "struct "+rarely(d, 15, pick(d, "E0 S0 S1 bool list text"), "S"+strconv.Itoa(i))+" {"+madeFields(d)+"}")
	}
	for range len(rarely(d, 8, pick(d, "a aa aaa"), "a")) - len(rarely(d, 12, "a", "")) {
		parts = append(parts, "root "+rarely(d, 8, pick(d, "S1 S2 E0 u8 x"), "S0")+";")
	}
	d.Shuffle(len(parts), func(i, j int) { parts[i], parts[j] = parts[j], parts[i] })
	return strings.Join(parts, " ")
}

func madeValues(d *rand.Rand) string {
	var l []string
	count := 1 + d.Intn(3)
	if d.Intn(20) == 0 {
		count = []int{0, 31, 32, 33}[d.Intn(4)]
	}
	for i := range count {
		l = append(l, rarely(d, 20+count, pick(d, "a0 a1 true"), "a"+strconv.Itoa(i)))
	}
	return strings.Join(l, ",")
}

func madeFields(d *rand.Rand) string {
	var l []string
	count := 1 + d.Intn(3)
	if d.Intn(20) == 0 {
		count = []int{0, 15, 16, 17}[d.Intn(4)]
	}
	for i := range count {
		label := rarely(d, 20+count, pick(d, `x0 x1 "x1"`), "x"+strconv.Itoa(i))
		lists := max(0, d.Intn(8)-4)
		typ := pick(d, "bool i8 i16 i32 i64 u8 u16 u32 u64 text data S0 S0 S0 E0 E0") // mostly there
		typ = rarely(d, 10, pick(d, "E0 E1 E2 S1 S2 u128"), typ)
		def := rarely(d, 3, " = "+pick(d, "0 1 -1 127 128 -128 255 256 65535 2147483648 -9223372036854775808 18446744073709551615 18446744073709551616 true false a0 a1 a31"), "")
		if d.Intn(3) > 0 { // mostly one that fits
			def = map[string]string{"bool": " = true", "E0": " = a0", "u8": " = 255", "i64": " = -5", "u16": " = 300"}[typ]
			lists = 0
		}
		l = append(l, label+": "+strings.Repeat("list<", lists)+typ+strings.Repeat(">", lists)+def+";")
	}
	return strings.Join(l, " ")
}

// P5.1, P5.2, P5.3
func TestReadOfManyTexts(t *testing.T) {
	d := rand.New(rand.NewSource(5))
	met, still, loops := map[api.Errno]int{}, map[bool]int{}, map[bool]int{}
	for range 40000 {
		text := made(d)
		r, fault := idl.Parse(text)
		if fault.Code == api.ErrMany { // a text that is too long
			continue
		}
		if fault != (api.Fault{}) {
			t.Fatalf("%q: %v", text, fault)
		}
		s, f := schema.Read(text)
		want := allFaults(r).first()
		met[want.Code]++
		if f != want {
			t.Fatalf("%q: fault %v, want %v", text, f, want)
		}
		if f != (api.Fault{}) {
			if !reflect.DeepEqual(s, api.Schema{}) {
				t.Fatalf("%q: %v beside a fault", text, s)
			}
			continue
		}
		if !reflect.DeepEqual(s, meaning(r)) || !schema.Check(s) {
			t.Fatalf("%q: %v, want %v, Check %v", text, s, meaning(r), schema.Check(s))
		}
		loops[comesBack(s)]++
		if schema.Loops(s) != comesBack(s) {
			t.Fatalf("%q: Loops %v", text, schema.Loops(s))
		}
		still[wantChanged(t, d, s)]++
	}
	if still[true] < 500 || still[false] < 500 || loops[true] < 500 || loops[false] < 500 {
		t.Errorf("still schemas, and loops: %v, %v", still, loops)
	}
	for _, code := range []api.Errno{api.OK, api.ErrTwice, api.ErrMany, api.ErrType, api.ErrValue, api.ErrRoot} {
		if met[code] < 500 {
			t.Errorf("only %d of %d: %v", met[code], code, met)
		}
	}
}

// written: a schema as a text, as far as it can be written; what no text says is left out.
func written(s api.Schema) string {
	var l []string
	for _, e := range s.Enums {
		l = append(l, "enum "+e.Name+"{"+strings.Join(e.Names, ",")+"}")
	}
	for _, r := range s.Structs {
		one := "struct " + r.Name + "{"
		for _, f := range r.Fields {
			one += `"` + f.Name + `":` + writtenType(s, f.Type) + writtenDef(s, f) + ";"
		}
		l = append(l, one+"}")
	}
	if s.Root >= 0 && s.Root < len(s.Structs) {
		l = append(l, "root "+s.Structs[s.Root].Name+";")
	}
	return strings.Join(l, "\n")
}

func writtenType(s api.Schema, t api.Type) string {
	name := "-"
	switch {
	case t.Kind == api.Enum && t.Ref >= 0 && t.Ref < len(s.Enums):
		name = s.Enums[t.Ref].Name
	case t.Kind == api.Struct && t.Ref >= 0 && t.Ref < len(s.Structs):
		name = s.Structs[t.Ref].Name
	case int(t.Kind) < len(basics):
		name = basics[t.Kind]
	}
	lists := max(0, t.Lists)
	return strings.Repeat("list<", lists) + name + strings.Repeat(">", lists)
}

func writtenDef(s api.Schema, f api.Field) string {
	switch {
	case f.Def == 0:
		return ""
	case f.Type.Kind == api.Bool && f.Def == 1:
		return "=true"
	case f.Type.Kind == api.Enum && f.Def < uint64(len(s.Enums[f.Type.Ref].Names)):
		return "=" + s.Enums[f.Type.Ref].Names[f.Def]
	case api.I8 <= f.Type.Kind && f.Type.Kind <= api.I64:
		return "=" + strconv.FormatInt(int64(f.Def), 10)
	}
	return "=" + strconv.FormatUint(f.Def, 10)
}

// change: one thing of a schema, for better or worse.
func change(d *rand.Rand, s *api.Schema) {
	r := &s.Structs[d.Intn(len(s.Structs))]
	f := &r.Fields[d.Intn(len(r.Fields))]
	number := []uint64{0, 1, 2, 127, 128, 255, 256, 65535, 65536, 1 << 31, 1 << 32, 1 << 63, 1<<64 - 1, 1<<64 - 128, 1<<64 - 129}[d.Intn(15)]
	name := []string{"", "a", "a0", "x0", "E0", "S0", "u8", "list", "a b", "q", "é", "a\"", "\\", "1", strings.Repeat("n", 40), strings.Repeat("n", 41)}[d.Intn(16)]
	switch d.Intn(9) {
	case 0:
		s.Root = d.Intn(6) - 1
	case 1:
		f.Def = number
	case 2:
		f.Type.Ref = d.Intn(5) - 1
	case 3:
		f.Type.Lists = d.Intn(6) - 1
	case 4:
		f.Type.Kind = api.Kind(d.Intn(15))
		f.Type.Ref = 0
	case 5:
		f.Name = name
	case 6:
		r.Name = name
	case 7:
		if len(s.Enums) > 0 {
			s.Enums[d.Intn(len(s.Enums))].Name = name
		}
	case 8:
		if len(s.Enums) > 0 {
			l := s.Enums[d.Intn(len(s.Enums))].Names
			l[d.Intn(len(l))] = name
		}
	}
}

// wantChanged checks Check of a schema that is changed a bit: it is one still, if it can be written and read; and tells whether it is.
func wantChanged(t *testing.T, d *rand.Rand, s api.Schema) bool {
	t.Helper()
	for range 1 + d.Intn(3) {
		change(d, &s)
		if strange(s) {
			return false
		}
	}
	back, f := schema.Read(written(s))
	want := f == (api.Fault{}) && reflect.DeepEqual(back, s)
	if got := schema.Check(s); got != want {
		t.Fatalf("%v: Check %v; written %q, fault %v", s, got, written(s), f)
	}
	return want
}

// strange: has a schema an enum's field of no enum? Such a default can't be written.
func strange(s api.Schema) bool {
	for _, r := range s.Structs {
		for _, f := range r.Fields {
			if f.Type.Kind == api.Enum && (f.Type.Ref < 0 || f.Type.Ref >= len(s.Enums)) {
				if schema.Check(s) {
					panic("a schema with an enum that isn't there")
				}
				return true
			}
		}
	}
	return false
}

// comesBack: Loops once more, by all ways of some steps.
func comesBack(s api.Schema) bool {
	at := map[int]bool{s.Root: true}
	for range s.Structs {
		next := map[int]bool{}
		for i := range at {
			for _, f := range s.Structs[i].Fields {
				if f.Type.Kind == api.Struct {
					next[f.Type.Ref] = true
				}
			}
		}
		at = next
	}
	return len(at) > 0 // a way with more steps than there are structs meets one twice
}
