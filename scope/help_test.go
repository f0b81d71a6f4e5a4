package scope

import (
	"fmt"
	"reflect"
	"slices"
	"strings"
	"testing"

	"bellwright/api"
	"bellwright/tree"
)

// mod tells the module of a text that is right.
func mod(t *testing.T, s string) api.Module {
	t.Helper()
	m, e := tree.Parse(s)
	if e != api.OK {
		t.Fatalf("Parse of %q: %d", s, e)
	}
	return m
}

// faceOf tells the face of a text whose module has one.
func faceOf(t *testing.T, s string) api.Face {
	t.Helper()
	f, e := Face(mod(t, s))
	if e != api.OK {
		t.Fatalf("Face of %q: %d", s, e)
	}
	return f
}

// same holds values against each other, of which an empty list may be nil or not.
func same(a, b any) bool { return fmt.Sprintf("%+v", a) == fmt.Sprintf("%+v", b) }

func wantFace(t *testing.T, m api.Module, want api.Errno) {
	t.Helper()
	f, e := Face(m)
	if e != want || e != api.OK && !same(f, api.Face{}) {
		t.Errorf("Face of %+v: %+v %d, must be %d", m, f, e, want)
	}
}

func wantCheck(t *testing.T, what string, f api.Face, want api.Errno) {
	t.Helper()
	if e := Check(f); e != want {
		t.Errorf("Check of %s: %d, must be %d", what, e, want)
	}
}

func wantResolve(t *testing.T, what string, m api.Module, l []api.Face, want api.Errno) {
	t.Helper()
	u, e := Resolve(m, l)
	if e != want || e != api.OK && !same(u, api.Unit{}) {
		t.Errorf("Resolve of %s: %+v %d, must be %d", what, u, e, want)
	}
}

// resolved tells the unit of a text, with faces that are handed in.
func resolved(t *testing.T, s string, l ...api.Face) api.Unit {
	t.Helper()
	u, e := Resolve(mod(t, s), l)
	if e != api.OK {
		t.Fatalf("Resolve of %q: %d", s, e)
	}
	return u
}

func num(n int) api.Node { return api.Node{Op: api.Num, N: n} }

func local(at int) api.Node { return api.Node{Op: api.Local, At: at} }

func out(n api.Node) api.Act { return api.Act{Op: api.Out, Args: []api.Node{n}} }

// spans gathers where the lists of a value lie, with their spare room.
func spans(v reflect.Value, l [][2]uintptr) [][2]uintptr {
	switch v.Kind() {
	case reflect.Slice:
		if v.Cap() > 0 {
			l = append(l, [2]uintptr{v.Pointer(), v.Pointer() + uintptr(v.Cap())*v.Type().Elem().Size()})
		}
		for i := range v.Len() {
			l = spans(v.Index(i), l)
		}
	case reflect.Struct:
		for i := range v.NumField() {
			l = spans(v.Field(i), l)
		}
	}
	return l
}

func overlap(l [][2]uintptr) bool {
	slices.SortFunc(l, func(a, b [2]uintptr) int { return int(int64(a[0]) - int64(b[0])) })
	for i := 1; i < len(l); i++ {
		if l[i][0] < l[i-1][1] {
			return true
		}
	}
	return false
}

// roomy puts spare room with something in it behind each list of a value.
func roomy(v reflect.Value) {
	switch v.Kind() {
	case reflect.Slice:
		n := v.Len()
		grown := reflect.MakeSlice(v.Type(), n+2, n+4)
		reflect.Copy(grown, v)
		for i := range n {
			roomy(grown.Index(i))
		}
		for i := n; i < n+2; i++ {
			mark(grown.Index(i))
		}
		v.Set(grown.Slice(0, n))
	case reflect.Struct:
		for i := range v.NumField() {
			roomy(v.Field(i))
		}
	}
}

func mark(v reflect.Value) {
	if v.Kind() == reflect.String {
		v.SetString("spare")
	} else {
		v.FieldByName("Name").SetString("spare")
	}
}

// tell tells a value with the spare room behind its lists.
func tell(x any) string {
	var b strings.Builder
	told(reflect.ValueOf(x), &b)
	return b.String()
}

func told(v reflect.Value, b *strings.Builder) {
	switch v.Kind() {
	case reflect.Slice:
		fmt.Fprintf(b, "[%d/%d:", v.Len(), v.Cap())
		for i := range v.Cap() {
			told(v.Slice(0, v.Cap()).Index(i), b)
		}
		b.WriteString("]")
	case reflect.Struct:
		for i := range v.NumField() {
			told(v.Field(i), b)
		}
	default:
		fmt.Fprintf(b, "%v,", v)
	}
}
