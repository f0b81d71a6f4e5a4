package build_test

import (
	"fmt"
	"slices"
	"strings"
	"testing"

	"bellwright/api"
	"bellwright/build"
	"bellwright/face"
	"bellwright/scope"
	"bellwright/tree"
)

// The document's example: top uses cnt.
const (
	cnt = "module cnt{pub const k=3;pub var sum;pub array t[4];pub proc down(n)local i;{i=n;while i{sum=(sum+i);i=(i-1);}return sum;}main{}}"
	top = "module top{use cnt;main{cnt.t[1]=cnt.down(cnt.k);out cnt.t[in];if(cnt.sum=6){out 7;}else{out 8;}}}"
)

// same holds values against each other, of which an empty list may be nil or not.
func same(a, b any) bool { return fmt.Sprintf("%+v", a) == fmt.Sprintf("%+v", b) }

// programs tells texts whose uses make chains, diamonds, or nothing, each as it is to be sorted.
func programs() [][]string {
	return [][]string{
		{"module a{main{}}"},
		{"module a{main{out 1;}}", "module b{main{out 2;}}", "module c{main{out 3;}}", "module d{main{out 4;}}"},
		{cnt, top},
		{"module d{pub var x;main{x=1;}}", "module c{use d;pub var x;main{x=(d.x+1);}}", "module b{use c;pub var x;main{x=(c.x+1);}}", "module a{use b;main{out b.x;}}"},
		{"module a{pub var v;pub proc p(n){v=(v+n);return v;}main{v=5;}}", "module b{use a;pub array t[3];main{t[1]=a.p(1);}}", "module c{use a;pub array t[2];pub const k=7;main{t[1]=a.p(k);}}", "module d{use c;use a;use b;main{out b.t[1];out c.t[c.k];}}"},
		{"module m{pub const k=1;main{}}", "module a{use m;main{out m.k;}}", "module z{main{out 26;}}"}, // nobody uses z
	}
}

// orders tells all orders of some texts.
func orders(l []string) [][]string {
	if len(l) == 0 {
		return [][]string{nil}
	}
	var all [][]string
	for _, rest := range orders(l[1:]) {
		for at := range l {
			all = append(all, slices.Insert(slices.Clone(rest), at, l[0]))
		}
	}
	return all
}

func parsed(t *testing.T, s string) api.Module {
	t.Helper()
	m, e := tree.Parse(s)
	if e != api.OK {
		t.Fatalf("Parse of %q: %d", s, e)
	}
	return m
}

// faceOf tells a text's face, and its bytes.
func faceOf(t *testing.T, s string) (api.Face, string) {
	t.Helper()
	f, e := scope.Face(parsed(t, s))
	b, d := face.Write(f)
	if e != api.OK || d != api.OK {
		t.Fatalf("Face %d, Write %d of %q", e, d, s)
	}
	return f, b
}

// raw tells the bytes of a face.
func raw(t *testing.T, f api.Face) string {
	t.Helper()
	b, e := face.Write(f)
	if e != api.OK {
		t.Fatalf("Write of %+v: %d", f, e)
	}
	return b
}

// ands tells an expression that lies as deep as may be: 156 instructions, 62 of them fixed.
func ands() string {
	s := "1"
	for range api.MaxDeep - 1 {
		s = "(" + s + "&" + s + ")"
	}
	return s
}

// much tells a module with 6 instructions, and so many statements, at most 20, of 157 each.
func much(name string, n int) string {
	line := "out" + ands() + ";"
	first := min(n, api.MaxBlock)
	return "module " + name + "{proc p(){" + strings.Repeat(line, n-first) + "}main{" + strings.Repeat(line, first) + "}}"
}

// heavy tells a module that needs so many numbers, at most MaxDecls * MaxArray.
func heavy(name string, n int) string {
	s := "module " + name + "{"
	for i := 0; n > 0; i++ {
		size := min(n, api.MaxArray)
		s += fmt.Sprintf("array t%d[%d];", i, size)
		n -= size
	}
	return s + "main{}}"
}

// wantCompile asks for an error of Compile, with nothing beside.
func wantCompile(t *testing.T, what, s string, faces []string, want api.Errno) {
	t.Helper()
	f, o, e := build.Compile(s, faces)
	if e != want || e != api.OK && (f != "" || o != "") || e == api.OK && (f == "" || o == "") {
		t.Errorf("Compile of %s: %d and %d bytes, %d, must be %d", what, len(f), len(o), e, want)
	}
}

// wantUnits asks for an error of Units, and of Build, with nothing beside.
func wantUnits(t *testing.T, what string, l []string, want api.Errno) {
	t.Helper()
	u, e := build.Units(l)
	if e != want || e != api.OK && len(u) > 0 || e == api.OK && len(u) != len(l) {
		t.Errorf("Units of %s: %d units, %d, must be %d", what, len(u), e, want)
	}
	wantBuild(t, what, l, want)
}

func wantBuild(t *testing.T, what string, l []string, want api.Errno) {
	t.Helper()
	m, e := build.Build(l)
	if e != want || e != api.OK && !same(m, api.Image{}) || e == api.OK && len(m.Code) == 0 {
		t.Errorf("Build of %s: %d instructions, %d numbers, %d, must be %d", what, len(m.Code), m.Data, e, want)
	}
}
