package link_test

import (
	"fmt"
	"slices"
	"testing"

	"bellwright/api"
	"bellwright/gen"
	"bellwright/link"
	"bellwright/scope"
	"bellwright/tree"
)

// same holds values against each other, of which an empty list may be nil or not.
func same(a, b any) bool { return fmt.Sprintf("%+v", a) == fmt.Sprintf("%+v", b) }

func repeat[T any](x T, n int) []T { return slices.Repeat([]T{x}, n) }

func ins(op, a, b int) api.Instr { return api.Instr{Op: op, A: a, B: b} }

// object tells a right object of a name, with so much code, that uses others.
func object(name string, code int, uses ...string) api.Object {
	return api.Object{Name: name, Uses: uses, Code: repeat(ins(api.OpNop, 0, 0), code)}
}

// named tells right objects of these names, of one instruction each.
func named(names ...string) []api.Object {
	var l []api.Object
	for _, n := range names {
		l = append(l, object(n, 1))
	}
	return l
}

// wantCheck holds what Check and Link tell against what they must.
func wantCheck(t *testing.T, what string, l []api.Object, want api.Errno) {
	t.Helper()
	if e := link.Check(l); e != want {
		t.Errorf("Check of %s: %d, must be %d", what, e, want)
	}
	if m, e := link.Link(l); e != want || e != api.OK && !same(m, api.Image{}) {
		t.Errorf("Link of %s: %+v %d, must be %d", what, m, e, want)
	}
}

// program tells the units of texts, each of which stands behind those that it uses, and their objects.
func program(t *testing.T, texts ...string) ([]api.Unit, []api.Object) {
	t.Helper()
	var mods []api.Module
	for _, s := range texts {
		m, e := tree.Parse(s)
		if e != api.OK {
			t.Fatalf("Parse of %q: %d", s, e)
		}
		mods = append(mods, m)
	}
	return compiled(t, mods)
}

func compiled(t *testing.T, mods []api.Module) ([]api.Unit, []api.Object) {
	t.Helper()
	faces := map[string]api.Face{}
	var units []api.Unit
	var objects []api.Object
	for _, m := range mods {
		var uses []api.Face
		for _, u := range m.Uses {
			uses = append(uses, faces[u])
		}
		u, e := scope.Resolve(m, uses)
		o, d := gen.Gen(u)
		if e != api.OK || d != api.OK {
			t.Fatalf("Resolve %d, Gen %d of %s", e, d, m.Name)
		}
		faces[m.Name], _ = scope.Face(m)
		units, objects = append(units, u), append(objects, o)
	}
	return units, objects
}
