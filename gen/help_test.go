package gen_test

import (
	"fmt"
	"slices"
	"strings"
	"testing"

	"bellwright/api"
	"bellwright/gen"
)

func num(n int) api.Node { return api.Node{Op: api.Num, N: n} }

func node(op int, args ...api.Node) api.Node { return api.Node{Op: op, Args: args} }

func out(n api.Node) api.Act { return api.Act{Op: api.Out, Args: []api.Node{n}} }

func repeat[T any](x T, n int) []T { return slices.Repeat([]T{x}, n) }

// same holds values against each other, of which an empty list may be nil or not.
func same(a, b any) bool { return fmt.Sprintf("%+v", a) == fmt.Sprintf("%+v", b) }

// top tells a right unit without statements, that uses lib and far: its parts have one, two, no and three parameters.
func top() api.Unit {
	return api.Unit{Name: "top", Uses: []string{"lib", "far"}, Data: 40, Parts: []api.Part{{Params: 1, Locals: 2}, {Params: 2}, {}, {Params: 3, Locals: 4}}}
}

// opNames are the names of operations, from 1 on.
var opNames = strings.Fields("push get set load save index fetch store not math jump zero call enter ret tick drop in out halt nop truth")

// tell tells code as text: each instruction by its name, A and B, but for zeros at the end, and its fix: what is fixed, and M.
func tell(t *testing.T, o api.Object) string {
	t.Helper()
	fixes := map[int]string{}
	last := -1
	for _, f := range o.Fixes {
		if f.At <= last {
			t.Errorf("fixes do not rise: %v", o.Fixes)
		}
		last = f.At
		fixes[f.At] = fmt.Sprintf(" %s%d", []string{"?", "code", "proc", "data"}[f.Kind], f.M)
	}
	var l []string
	for i, c := range o.Code {
		s := opNames[c.Op-1]
		if c.A != 0 || c.B != 0 {
			s += fmt.Sprint(" ", c.A)
		}
		if c.B != 0 {
			s += fmt.Sprint(" ", c.B)
		}
		l = append(l, s+fixes[i])
		delete(fixes, i)
	}
	if len(fixes) > 0 {
		t.Errorf("fixes of no code: %v", fixes)
	}
	return strings.Join(l, ", ")
}

// wantErr holds the error that Gen tells against the one that it must, with nothing beside.
func wantErr(t *testing.T, what string, u api.Unit, want api.Errno) {
	t.Helper()
	o, e := gen.Gen(u)
	if e != want {
		t.Errorf("Gen of %s: %d, must be %d", what, e, want)
	}
	if e != api.OK && !same(o, api.Object{}) {
		t.Errorf("Gen of %s: %d with %+v", what, e, o)
	}
	if e == api.OK && (o.Name != u.Name || !slices.Equal(o.Uses, u.Uses) || o.Data != u.Data || len(o.Entries) != len(u.Parts)) {
		t.Errorf("Gen of %s: %+v", what, o)
	}
}
