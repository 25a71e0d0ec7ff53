package view_test

import (
	"testing"

	"transom/api"
	"transom/view"
)

// strict is a view that refuses every question but the one that a field's type asks for; what it answers of bytes is its own, and of a list that is empty nil.
type strict struct {
	t     *testing.T
	s     api.Schema
	types []api.Type // of the fields, or of the elements
	kids  []api.Val
}

func (x strict) ask(i int, what string) api.Val {
	x.t.Helper()
	if i < 0 || i >= len(x.kids) {
		x.t.Fatalf("place %d of %d is asked for", i, len(x.kids))
	}
	y := x.types[i]
	is := "number"
	switch {
	case y.Lists > 0:
		is = "list"
	case y.Kind == api.Struct:
		is = "struct"
	case y.Kind == api.Text || y.Kind == api.Data:
		is = "bytes"
	}
	if is != what {
		x.t.Fatalf("a %s is asked for its %s", is, what)
	}
	return x.kids[i]
}

func (x strict) Num(i int) uint64   { return x.ask(i, "number").Num }
func (x strict) Bytes(i int) []byte { return x.ask(i, "bytes").Bytes }

func (x strict) List(i int) view.Items {
	v := x.ask(i, "list")
	if len(v.Kids) == 0 {
		return nil
	}
	y := x.types[i]
	y.Lists--
	l := strictItems{strict{t: x.t, s: x.s, kids: v.Kids}}
	for range v.Kids {
		l.types = append(l.types, y)
	}
	return l
}

func (x strict) Sub(i int) (view.View, bool) {
	v := x.ask(i, "struct")
	if !v.Has {
		return nil, false
	}
	return strictView(x.t, x.s, x.types[i].Ref, v), true
}

type strictItems struct{ strict }

func (l strictItems) Len() int { return len(l.kids) }

func (l strictItems) Sub(i int) view.View {
	v, _ := l.strict.Sub(i)
	return v
}

func strictView(t *testing.T, s api.Schema, rec int, v api.Val) strict {
	x := strict{t: t, s: s, kids: v.Kids}
	for _, f := range s.Structs[rec].Fields {
		x.types = append(x.types, f.Type)
	}
	return x
}

// P7.1, P7.2: views of others are asked just for what a field's type is, at places that are there.
func TestViewsAreAskedByTypes(t *testing.T) {
	s := read(t, allSorts)
	for _, v := range []api.Val{full(), view.Default(s.Structs[1])} {
		x := strictView(t, s, 1, v)
		if got := view.Tree(s, 1, x); !same(got, v) {
			t.Errorf("%v, not %v", got, v)
		}
		for i, f := range s.Structs[1].Fields {
			if view.Empty(f, x, i) != view.Empty(f, view.Of(v), i) {
				t.Errorf("%s: Empty of another view", f.Name)
			}
		}
	}
}

// R6: a tree shares no bytes with the view that it was made of.
func TestTreeIsNew(t *testing.T) {
	s := read(t, `struct S { t: text; l: list<data>; } root S;`)
	v := there(raw("ab"), many(raw("cd")))
	tree := view.Tree(s, 0, strictView(t, s, 0, v))
	tree.Kids[0].Bytes[0], tree.Kids[1].Kids[0].Bytes[0] = 'X', 'X'
	if !same(v, there(raw("ab"), many(raw("cd")))) {
		t.Errorf("changed: %v", v)
	}
}
