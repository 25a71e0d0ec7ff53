package idl_test

import (
	"slices"
	"sort"
	"strconv"
	"strings"
	"testing"

	"transom/api"
	"transom/idl"
	"transom/lex"
)

// The chapter's grammar, said once more as texts of tokens, and asked token by token what may still follow (a derivative). It shares nothing with the program, and tells which token is the first that isn't right.

// rule is what may stand: a nil rule is nothing that may.
type rule interface {
	behind(t api.Token) rule // what may stand behind this token
	done() bool              // whether it may be over
}

type (
	over struct{}
	one  func(t api.Token) bool
	two  struct{ first, second rule }
	any2 struct{ one, other rule }
	many struct{ each rule }
)

func (over) behind(api.Token) rule { return nil }
func (over) done() bool            { return true }

func (f one) behind(t api.Token) rule {
	if f(t) {
		return over{}
	}
	return nil
}
func (one) done() bool { return false }

func then(first, second rule) rule {
	if first == nil || second == nil {
		return nil
	}
	if _, ok := first.(over); ok {
		return second
	}
	return two{first, second}
}

func or(one, other rule) rule {
	if one == nil {
		return other
	}
	if other == nil {
		return one
	}
	return any2{one, other}
}

func (r two) behind(t api.Token) rule {
	all := then(r.first.behind(t), r.second)
	if r.first.done() {
		return or(all, r.second.behind(t))
	}
	return all
}
func (r two) done() bool { return r.first.done() && r.second.done() }

func (r any2) behind(t api.Token) rule { return or(r.one.behind(t), r.other.behind(t)) }
func (r any2) done() bool              { return r.one.done() || r.other.done() }

func (r many) behind(t api.Token) rule { return then(r.each.behind(t), r) }
func (many) done() bool                { return true }

func row(l ...rule) rule {
	all := rule(over{})
	for _, r := range slices.Backward(l) {
		all = then(r, all)
	}
	return all
}

func maybe(r rule) rule { return or(over{}, r) }

func just(kind api.TokenKind, text string) rule {
	return one(func(t api.Token) bool { return t.Kind == kind && t.Text == text })
}

func sign(text string) rule { return just(api.TSign, text) }
func word(text string) rule { return just(api.TName, text) }

func short(t api.Token) bool { return 1 <= len(t.Text) && len(t.Text) <= api.MaxName }

func name() rule {
	return one(func(t api.Token) bool { return t.Kind == api.TName && short(t) })
}

func label() rule {
	return or(name(), one(func(t api.Token) bool { return t.Kind == api.TQuoted && short(t) }))
}

// written: a type that has at most so many lists more.
func written(lists int) rule {
	all := rule(one(func(t api.Token) bool { return t.Kind == api.TName && short(t) && t.Text != "list" }))
	if lists > 0 {
		all = or(all, row(word("list"), sign("<"), written(lists-1), sign(">")))
	}
	return all
}

func grammar() rule {
	def := one(func(t api.Token) bool { return t.Kind == api.TName || t.Kind == api.TNumber })
	field := row(label(), sign(":"), written(api.MaxLists), maybe(row(sign("="), def)), sign(";"))
	values := row(name(), many{row(sign(","), name())}, maybe(sign(",")))
	return many{or(
		row(word("struct"), name(), sign("{"), many{field}, sign("}")), or(
			row(word("enum"), name(), sign("{"), maybe(values), sign("}")),
			row(word("root"), name(), sign(";"))))}
}

// refused: the error at a token that may not stand where a rule is left.
func refused(left rule, t api.Token) api.Errno {
	right := api.Token{Kind: t.Kind, Text: "x"}
	switch {
	case t.Kind != api.TName && t.Kind != api.TQuoted || left.behind(right) == nil:
		return api.ErrParse
	case !short(t):
		return api.ErrName
	case t.Text == "list":
		return api.ErrMany
	}
	return api.ErrParse
}

// due: the fault of tokens, as the grammar tells it.
func due(l []api.Token) api.Fault {
	left := grammar()
	for _, t := range l {
		if t.Kind == api.TEnd && left.done() {
			return api.Fault{}
		}
		next := left.behind(t)
		if next == nil {
			return api.Fault{Code: refused(left, t), At: t.At}
		}
		left = next
	}
	return api.Fault{Code: -1}
}

// pieces: all kinds of tokens that may stand in a schema's text, as they are written.
func pieces() []string {
	return []string{
		"struct", "enum", "root", "list", "x", most(), most() + "y", `"list"`, `"é"`, `""`, `"` + most() + `"`, `"` + most() + `y"`, "7", "-7",
		"{", "}", ":", ";", "=", ",", "<", ">",
	}
}

// said: the tokens that a schema as it is written came from, in their order; what may be left out (an enum's last comma) is left out.
func said(r api.Raw) []api.Token {
	type part struct {
		at int
		l  []api.Token
	}
	s := func(text string) api.Token { return api.Token{Kind: api.TSign, Text: text, At: -1} }
	w := func(text string, at int) api.Token { return api.Token{Kind: api.TName, Text: text, At: at} }
	var parts []part
	for _, x := range r.Structs {
		l := []api.Token{w("struct", -1), w(x.Name, x.At), s("{")}
		for _, f := range x.Fields {
			l = append(l, api.Token{Kind: -1, Text: f.Name, At: f.At}, s(":")) // a label may be a quoted text
			for i := range f.Type.Lists {
				l = append(l, w("list", f.Type.At), s("<"))
				if i > 0 {
					l[len(l)-2].At = -1
				}
			}
			if l = append(l, w(f.Type.Name, -1)); f.Type.Lists == 0 {
				l[len(l)-1].At = f.Type.At
			}
			for range f.Type.Lists {
				l = append(l, s(">"))
			}
			if f.Def != (api.Token{}) {
				l = append(l, s("="), f.Def)
			}
			l = append(l, s(";"))
		}
		parts = append(parts, part{x.At, append(l, s("}"))})
	}
	for _, x := range r.Enums {
		l := []api.Token{w("enum", -1), w(x.Name, x.At), s("{")}
		for i, n := range x.Names {
			if i > 0 {
				l = append(l, s(","))
			}
			l = append(l, n)
		}
		parts = append(parts, part{x.At, append(l, s("}"))})
	}
	for _, x := range r.Roots {
		parts = append(parts, part{x.At, []api.Token{w("root", -1), x, s(";")}})
	}
	sort.SliceStable(parts, func(i, j int) bool { return parts[i].at < parts[j].at })
	var all []api.Token
	for _, p := range parts {
		all = append(all, p.l...)
	}
	return all
}

// wantSaid checks that what was read is just what the text says: each token, and each place that is told.
func wantSaid(t *testing.T, text string, l []api.Token, r api.Raw) {
	t.Helper()
	var left []api.Token // without commas that may be left out, and without the end
	for i, k := range l[:len(l)-1] {
		if k.Kind == api.TSign && k.Text == "," && l[i+1].Text == "}" {
			continue
		}
		left = append(left, k)
	}
	got := said(r)
	ok := len(got) == len(left)
	for i := 0; ok && i < len(got); i++ {
		g, k := got[i], left[i]
		ok = g.Text == k.Text && (g.At < 0 || g.At == k.At) && (g.Kind == k.Kind || g.Kind < 0 && (k.Kind == api.TName || k.Kind == api.TQuoted))
	}
	if !ok {
		t.Errorf("%q: read as %s", text, told(r))
	}
}

// wantDue checks a text against the grammar.
func wantDue(t *testing.T, text string) api.Fault {
	t.Helper()
	l, f := lex.Tokens(text, "{}:;=,<>")
	if f != (api.Fault{}) {
		t.Fatalf("%q: %v", text, f)
	}
	want := due(l)
	r, f := idl.Parse(text)
	switch {
	case f != want:
		t.Errorf("%q: fault %v, want %v", text, f, want)
	case f != (api.Fault{}) && told(r) != "":
		t.Errorf("%q: %s beside a fault", text, told(r))
	case f == (api.Fault{}):
		wantSaid(t, text, l, r)
	}
	return want
}

// walk tries each piece behind a text that is right so far, and goes on behind those that are right too; it tells how many texts it tried.
func walk(t *testing.T, text string, more int) int {
	t.Helper()
	tried := 0
	for _, p := range pieces() {
		next := text + p + " "
		f := wantDue(t, next)
		tried++
		if more > 1 && (f == (api.Fault{}) || f == (api.Fault{Code: api.ErrParse, At: len(next)})) { // right, as far as it goes
			tried += walk(t, next, more-1)
		}
	}
	return tried
}

// P4.1
func TestParseAsTheGrammarSays(t *testing.T) {
	tried := 0
	for begin, more := range map[string]int{
		"":                                      5,
		"struct A { ":                           5,
		"struct A { x : list < ":                5,
		"struct A { x : list < list < list < ":  5,
		"struct A { x : list < list < x ":       6,
		"struct A { x : u8 = x ; ":              4,
		"enum E { ":                             6,
		"enum E { a , b ":                       6,
		"root A ; ":                             4,
		"struct A { } enum E { } root A ; ":     4,
		"struct A { x : u8 ; } struct B { y : ": 4,
	} {
		tried += walk(t, begin, more)
	}
	t.Log(strconv.Itoa(tried) + " texts")
}

// P1, P4.1: a right text with two pieces in one another's places, or one left out, put in, or replaced, or that ends too soon.
func TestParseOfTextsThatAreNearlyRight(t *testing.T) {
	const right = `root A ; struct A { x : list < list < u8 > > ; "é" : E = b ; list : list < list < list < A > > > = -5 ; } enum E { a , b , } enum F { c , d } root B ;`
	l := strings.Fields(right)
	if f := wantDue(t, right); f != (api.Fault{}) {
		t.Fatalf("%q: %v", right, f)
	}
	for i := range l {
		wantDue(t, strings.Join(l[:i], " "))
		wantDue(t, strings.Join(slices.Delete(slices.Clone(l), i, i+1), " "))
		for j := range i {
			m := slices.Clone(l)
			m[i], m[j] = m[j], m[i]
			wantDue(t, strings.Join(m, " "))
		}
		for _, p := range pieces() {
			wantDue(t, strings.Join(slices.Insert(slices.Clone(l), i, p), " "))
			m := slices.Clone(l)
			m[i] = p
			wantDue(t, strings.Join(m, " "))
		}
	}
}
