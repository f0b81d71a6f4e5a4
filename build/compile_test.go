package build_test

import (
	"fmt"
	"strings"
	"testing"

	"bellwright/api"
	"bellwright/build"
	"bellwright/gen"
	"bellwright/obj"
	"bellwright/scope"
)

// L1: a module's face and object, as bytes.
func TestCompile(t *testing.T) {
	shown := map[string]api.Face{}
	bytes := map[string]string{}
	for _, p := range programs() {
		for _, s := range p {
			m := parsed(t, s)
			var uses []api.Face
			var faces []string
			for _, use := range m.Uses {
				uses, faces = append(uses, shown[use]), append(faces, bytes[use])
			}
			f, b := faceOf(t, s)
			shown[m.Name], bytes[m.Name] = f, b
			u, _ := scope.Resolve(m, uses)
			o, _ := gen.Gen(u)
			want, e := obj.Write(o)
			if e != api.OK {
				t.Fatalf("Write of %+v: %d", o, e)
			}
			got, code, e := build.Compile(s, faces)
			if e != api.OK || got != b || code != want {
				t.Errorf("Compile of %q: %q %q %d, must be %q %q", s, got, code, e, b, want)
			}
		}
	}
}

// L1: the document's example.
func TestExample(t *testing.T) {
	f, o, e := build.Compile(cnt, nil)
	if e != api.OK || len(f) != 86 || len(o) != 519 {
		t.Errorf("%d and %d bytes, %d", len(f), len(o), e)
	}
	g, p, e := build.Compile(top, []string{f})
	if e != api.OK || g != "\x03top\x00" {
		t.Errorf("%q %d", g, e)
	}
	if l, e := obj.Read(p); e != api.OK || l.Name != "top" || !same(l.Uses, []string{"cnt"}) {
		t.Errorf("%+v %d", l, e)
	}
}

// L1: faces are asked for in the order of the uses.
func TestFaceOrder(t *testing.T) {
	_, a := faceOf(t, "module a{pub var x;main{}}")
	_, b := faceOf(t, "module b{pub var x;main{}}")
	const s = "module c{use b;use a;main{out a.x;}}"
	wantCompile(t, "faces as they are used", s, []string{b, a}, api.OK)
	wantCompile(t, "faces in another order", s, []string{a, b}, api.ErrForm)
	wantCompile(t, "one face twice", s, []string{b, b}, api.ErrForm)
	wantCompile(t, "too few faces", s, []string{b}, api.ErrCount)
	wantCompile(t, "no faces", s, nil, api.ErrCount)
	wantCompile(t, "too many faces", s, []string{b, a, a}, api.ErrCount)
	wantCompile(t, "a face without a use", "module c{main{}}", []string{a}, api.ErrCount)
	wantCompile(t, "no faces, no uses", "module c{main{}}", []string{}, api.OK)
	wantCompile(t, "more faces than there may be uses", "module c{main{}}", strings.Split(strings.Repeat(a+"|", 99)+a, "|"), api.ErrCount)
}

// L1: each kind of error.
func TestCompileErrors(t *testing.T) {
	_, a := faceOf(t, "module a{pub var x;pub const k=2;pub array t[2];pub proc p(n){}main{}}")
	uses := []string{a}
	for _, c := range []struct {
		s    string
		want api.Errno
	}{
		{"", api.ErrForm}, {"x", api.ErrForm}, {"module b{use a;main{}}}", api.ErrForm}, {"module b{use a;main{if 1{}else{}}}", api.ErrForm}, {strings.Repeat(" ", api.MaxText+1), api.ErrMany},
		{"module b{use a;var x;var x;main{}}", api.ErrThere}, {"module b{use a;use a;main{}}", api.ErrThere}, {"module b{use a;var x;proc x(){}main{}}", api.ErrThere},
		{"module b{use a;proc p(x)local x;{}main{}}", api.ErrThere},
		{"module b{use a;main{out x;}}", api.ErrNone}, {"module b{use a;main{out a.y;}}", api.ErrNone}, {"module b{use a;main{out c.x;}}", api.ErrNone}, {"module b{use a;main{out a.a;}}", api.ErrNone},
		{"module b{use a;main{out a.t;}}", api.ErrWrong}, {"module b{use a;main{a.k=1;}}", api.ErrWrong}, {"module b{use a;main{a.x();}}", api.ErrWrong},
		{"module b{use a;main{a.p();}}", api.ErrCount}, {"module b{use a;main{out a.p(1,2);}}", api.ErrCount},
		{"module a{use a;main{}}", api.ErrForm}, // Gen's: it uses itself
		{"module b{use a;main{out a.p(a.t[a.x]);a.t[a.k]=a.k;}}", api.OK},
	} {
		wantCompile(t, c.s, c.s, uses, c.want)
	}
}

// L1: Parse's errors, then those of faces, then Face's, Resolve's, Gen's and Write's.
func TestCompileOrder(t *testing.T) {
	_, a := faceOf(t, "module a{pub var x;main{}}")
	_, b := faceOf(t, "module b{main{}}")
	long := strings.Repeat("x", api.MaxBytes+1)
	far := raw(t, api.Face{Name: "a", Items: []api.Item{{Kind: api.Routine, At: api.MaxProcs, Name: "p"}}})
	const twice = "module c{use a;var x;var x;main{out y;}}"
	for _, c := range []struct {
		what, s string
		faces   []string
		want    api.Errno
	}{
		{"text and face", "", []string{long}, api.ErrForm},
		{"long text and face", strings.Repeat("x", api.MaxText+1), []string{"x"}, api.ErrMany},
		{"face and names", twice, []string{"x"}, api.ErrForm},
		{"long face and names", twice, []string{long}, api.ErrMany},
		{"two faces", twice, []string{"x", long}, api.ErrForm},
		{"two faces, the long one first", twice, []string{long, "x"}, api.ErrMany},
		{"a face behind one that is right", twice, []string{a, long}, api.ErrMany},
		{"a face more than there are uses", "module c{main{}}", []string{""}, api.ErrForm},
		{"a face cut off", "module c{use a;main{}}", []string{a[:len(a)-1]}, api.ErrForm},
		{"a face and a byte more", "module c{use a;main{}}", []string{a + "x"}, api.ErrForm},
		{"names and how many faces", twice, nil, api.ErrThere},
		{"names and another face", twice, []string{b}, api.ErrThere},
		{"how many faces and bodies", "module c{use a;main{out y;}}", nil, api.ErrCount},
		{"how many faces and another face", "module c{use a;main{}}", []string{b, b}, api.ErrCount},
		{"another face and bodies", "module c{use a;main{out y;}}", []string{b}, api.ErrForm},
		{"bodies and Gen", "module a{use a;main{out y;}}", []string{a}, api.ErrNone},
		{"a part that can't be", "module c{use a;main{a.p();}}", []string{far}, api.ErrForm},
		{"a part that can't be, not called", "module c{use a;main{}}", []string{far}, api.OK},
		{"itself, with too much code", strings.Replace(much("a", 14), "{", "{use a;", 1), []string{a}, api.ErrForm},
	} {
		wantCompile(t, c.what, c.s, c.faces, c.want)
	}
}

// L1: code that is too much: for an object, and for its bytes.
func TestCompileMuch(t *testing.T) {
	for n := range 21 {
		ofGen, ofWrite := api.OK, api.OK
		if n > 13 {
			ofGen = api.ErrMany
		} else if n > 8 {
			ofWrite = api.ErrMany
		}
		s := much("a", n)
		u, _ := scope.Resolve(parsed(t, s), nil)
		o, e := gen.Gen(u)
		_, d := obj.Write(o)
		if e != ofGen || e == api.OK && d != ofWrite {
			t.Errorf("%d statements: Gen %d, Write %d", n, e, d)
		}
		wantCompile(t, fmt.Sprint(n, " statements"), s, nil, max(ofGen, ofWrite))
	}
}

// L3: Compile needs nothing of other modules but their faces.
func TestFacesAlone(t *testing.T) {
	one, _, _ := build.Compile("module a{pub var x;pub proc p(n){x=n;}main{}}", nil)
	two, _, _ := build.Compile("module a{pub var x;var y;array t[9];pub proc p(m)local z;{return z;}proc q(){}main{while 1{p(2);}}}", nil)
	if one != two || one == "" {
		t.Fatalf("%q and %q", one, two)
	}
	const s = "module b{use a;pub var x;main{a.p(a.x);}}"
	f, o, e := build.Compile(s, []string{one})
	g, p, d := build.Compile(s, []string{two})
	if e != api.OK || d != api.OK || f != g || o != p {
		t.Errorf("%q %q %d and %q %q %d", f, o, e, g, p, d)
	}
}
