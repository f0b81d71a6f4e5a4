package sem

import (
	"fmt"
	"reflect"
	"slices"
	"strings"
	"testing"

	"bellwright/api"
	"bellwright/scope"
	"bellwright/tree"
)

// program tells the units of texts, each of which stands behind those that it uses.
func program(t *testing.T, texts ...string) []api.Unit {
	t.Helper()
	faces := map[string]api.Face{}
	var l []api.Unit
	for _, s := range texts {
		m, e := tree.Parse(s)
		if e != api.OK {
			t.Fatalf("Parse of %q: %d", s, e)
		}
		var uses []api.Face
		for _, u := range m.Uses {
			uses = append(uses, faces[u])
		}
		u, e := scope.Resolve(m, uses)
		if e != api.OK {
			t.Fatalf("Resolve of %q: %d", s, e)
		}
		faces[m.Name], _ = scope.Face(m)
		l = append(l, u)
	}
	return l
}

// same holds values against each other, of which an empty list may be nil or not.
func same(a, b any) bool { return fmt.Sprintf("%+v", a) == fmt.Sprintf("%+v", b) }

func wantCheck(t *testing.T, what string, l []api.Unit, want api.Errno) {
	t.Helper()
	if e := Check(l); e != want {
		t.Errorf("Check of %s: %d, must be %d", what, e, want)
	}
	if r, e := Run(l, nil, 0); e != want || e != api.OK && !same(r, api.Result{}) {
		t.Errorf("Run of %s: %+v %d, must be %d", what, r, e, want)
	}
}

// run tells what a program does with all ticks.
func run(t *testing.T, l []api.Unit, in ...int) api.Result {
	t.Helper()
	r, e := Run(l, in, api.MaxTicks)
	if e != api.OK {
		t.Fatalf("Run: %d", e)
	}
	return r
}

// wantRun holds what a program of one text does with all ticks against what it must.
func wantRun(t *testing.T, s string, in []int, want api.Result) {
	t.Helper()
	if r := run(t, program(t, s), in...); !same(r, want) {
		t.Errorf("%s with %v: %+v, must be %+v", s, in, r, want)
	}
}

func num(n int) api.Node { return api.Node{Op: api.Num, N: n} }

func node(op int, args ...api.Node) api.Node { return api.Node{Op: op, Args: args} }

func out(n api.Node) api.Act { return api.Act{Op: api.Out, Args: []api.Node{n}} }

func repeat[T any](x T, n int) []T { return slices.Repeat([]T{x}, n) }

// nots tells an expression that is so many deep.
func nots(deep int) api.Node {
	x := num(1)
	for range deep - 1 {
		x = node(api.Not, x)
	}
	return x
}

// whiles tells a block of which so many lie in one another.
func whiles(deep int, inner ...api.Act) []api.Act {
	for range deep - 1 {
		inner = []api.Act{{Op: api.While, Args: []api.Node{num(1)}, Body: inner}}
	}
	return inner
}

// ifs tells the same of Ifs, which lie in the other one's Other.
func ifs(deep int, inner ...api.Act) []api.Act {
	for range deep - 1 {
		inner = []api.Act{{Op: api.If, Args: []api.Node{num(1)}, Other: inner}}
	}
	return inner
}

// copied tells a copy that shares no memory.
func copied(l []api.Unit) []api.Unit {
	v := reflect.New(reflect.TypeOf(l)).Elem()
	v.Set(reflect.ValueOf(l))
	roomy(v, 0)
	return v.Interface().([]api.Unit)
}

// roomy lays each list of a value anew, with so much spare room, with something in it, behind it.
func roomy(v reflect.Value, room int) {
	switch v.Kind() {
	case reflect.Slice:
		n := v.Len()
		grown := reflect.MakeSlice(v.Type(), n+room, n+room)
		reflect.Copy(grown, v)
		for i := range n {
			roomy(grown.Index(i), room)
		}
		for i := n; i < n+room; i++ {
			mark(grown.Index(i))
		}
		v.Set(grown.Slice(0, n))
	case reflect.Struct:
		for i := range v.NumField() {
			roomy(v.Field(i), room)
		}
	}
}

func mark(v reflect.Value) {
	switch v.Kind() {
	case reflect.String:
		v.SetString("spare")
	case reflect.Int:
		v.SetInt(4711)
	case reflect.Struct:
		mark(v.Field(0))
	}
}

// tell tells a value with the spare room behind its lists.
func tell(x any) string {
	var b strings.Builder
	told(reflect.ValueOf(x), &b)
	return b.String()
}

func told(v reflect.Value, b *strings.Builder) {
	switch v.Kind() {
	case reflect.Slice:
		fmt.Fprintf(b, "[%d/%d:", v.Len(), v.Cap())
		for i := range v.Cap() {
			told(v.Slice(0, v.Cap()).Index(i), b)
		}
		b.WriteString("]")
	case reflect.Struct:
		for i := range v.NumField() {
			told(v.Field(i), b)
		}
	default:
		fmt.Fprintf(b, "%v,", v)
	}
}
