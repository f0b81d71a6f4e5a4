package build_test

import (
	"slices"
	"strings"
	"testing"

	"bellwright/api"
	"bellwright/build"
	"bellwright/gen"
	"bellwright/link"
	"bellwright/obj"
	"bellwright/scope"
	"bellwright/sem"
)

// units tells those of texts that are as they are to be sorted.
func units(t *testing.T, l []string) []api.Unit {
	t.Helper()
	faces := map[string]api.Face{}
	var all []api.Unit
	for _, s := range l {
		m := parsed(t, s)
		var uses []api.Face
		for _, use := range m.Uses {
			uses = append(uses, faces[use])
		}
		u, e := scope.Resolve(m, uses)
		if e != api.OK {
			t.Fatalf("Resolve of %q: %d", s, e)
		}
		faces[m.Name], _ = faceOf(t, s)
		all = append(all, u)
	}
	return all
}

// image tells what Link makes of units.
func image(t *testing.T, l []api.Unit) api.Image {
	t.Helper()
	var objects []api.Object
	for _, u := range l {
		o, _ := gen.Gen(u)
		objects = append(objects, o)
	}
	m, e := link.Link(objects)
	if e != api.OK {
		t.Fatalf("Link of %+v: %d", objects, e)
	}
	return m
}

// L2, L3: texts in every order have the units in the order of Sort, and one image.
func TestUnits(t *testing.T) {
	for _, p := range programs() {
		want := units(t, p)
		for _, l := range orders(p) {
			u, e := build.Units(l)
			if e != api.OK || !same(u, want) || sem.Check(u) != api.OK {
				t.Errorf("Units of %q: %+v %d, must be %+v", l, u, e, want)
			}
			m, e := build.Build(l)
			if e != api.OK || !same(m, image(t, want)) {
				t.Errorf("Build of %q: %+v %d, must be %+v", l, m, e, image(t, want))
			}
		}
	}
}

// L3: what is compiled one by one and linked is what Build tells.
func TestOneByOne(t *testing.T) {
	for _, p := range programs() {
		faces := map[string]string{}
		var objects []api.Object
		for _, s := range p {
			m := parsed(t, s)
			var uses []string
			for _, use := range m.Uses {
				uses = append(uses, faces[use])
			}
			f, b, e := build.Compile(s, uses)
			o, d := obj.Read(b)
			if e != api.OK || d != api.OK {
				t.Fatalf("Compile %d, Read %d of %q", e, d, s)
			}
			faces[m.Name], objects = f, append(objects, o)
		}
		want, e := link.Link(objects)
		m, d := build.Build(p)
		if e != api.OK || d != api.OK || !same(m, want) {
			t.Errorf("Build of %q: %+v %d, linked %+v %d", p, m, d, want, e)
		}
	}
}

// L2: the document's example: in each order of the texts cnt is ahead of top.
func TestBuildExample(t *testing.T) {
	for _, l := range orders([]string{cnt, top}) {
		m, e := build.Build(l)
		if e != api.OK || len(m.Code) != 46 || m.Data != 5 || m.Code[0] != (api.Instr{Op: api.OpCall, A: 22}) {
			t.Errorf("%+v %d", m, e)
		}
	}
}

// L2: how many texts there are, asked first.
func TestTexts(t *testing.T) {
	wantUnits(t, "none", nil, api.ErrMany)
	wantUnits(t, "an empty list", []string{}, api.ErrMany)
	wantUnits(t, "an empty text", []string{""}, api.ErrForm)
	wantUnits(t, "MaxMods", programs()[1], api.OK)
	wantUnits(t, "one more", append(programs()[1], "module e{main{}}"), api.ErrMany)
	wantUnits(t, "one more, none of which can be parsed", make([]string, api.MaxMods+1), api.ErrMany)
	wantUnits(t, "far more", make([]string, 1<<16), api.ErrMany)
}

// L2: each kind of error, and which is first.
func TestUnitsErrors(t *testing.T) {
	const a, form, none, there = "module a{main{}}", "module", "module b{main{out x;}}", "module c{var x;var x;main{}}"
	long := strings.Repeat("x", api.MaxText+1)
	for _, c := range []struct {
		what string
		l    []string
		want api.Errno
	}{
		{"a text", []string{a, form}, api.ErrForm},
		{"a long text", []string{a, long}, api.ErrMany},
		{"two texts", []string{form, long}, api.ErrForm},
		{"two texts, the long one first", []string{a, long, form}, api.ErrMany},
		{"a text behind two of one name", []string{a, a, form}, api.ErrForm},
		{"a text behind one that can't be resolved", []string{none, there, long}, api.ErrMany},
		{"two of one name", []string{a, "module b{main{}}", a}, api.ErrThere},
		{"two of one name, one of which can't be resolved", []string{none, "module b{main{}}"}, api.ErrThere},
		{"a use that is no module", []string{a, "module b{use c;main{}}"}, api.ErrNone},
		{"a use that is no module, behind names", []string{there, "module b{use d;main{}}"}, api.ErrNone},
		{"itself", []string{"module a{use a;main{}}"}, api.ErrRound},
		{"one another", []string{"module a{use b;main{}}", "module b{use a;main{}}", "module c{main{}}"}, api.ErrRound},
		{"one that needs such", []string{"module a{use b;main{}}", "module b{use c;main{}}", "module c{use b;main{}}"}, api.ErrRound},
		{"one another, and names", []string{"module a{use a;main{}}", none, there}, api.ErrRound},
		{"a use told twice", []string{a, "module b{use a;use a;main{}}"}, api.ErrThere},
		{"a name", []string{none}, api.ErrNone},
		{"two alike", []string{there}, api.ErrThere},
		{"a name that is not shown", []string{"module a{var x;main{}}", "module b{use a;main{out a.x;}}"}, api.ErrNone},
		{"a constant that is set", []string{"module a{pub const x=1;main{}}", "module b{use a;main{a.x=2;}}"}, api.ErrWrong},
		{"too few numbers", []string{"module a{pub proc p(n){}main{}}", "module b{use a;main{a.p();}}"}, api.ErrCount},
		{"one that is needed, but not used", []string{"module a{pub var x;main{}}", "module b{use a;main{}}", "module c{use b;main{out a.x;}}"}, api.ErrNone},
		{"one that is there, but not used", []string{"module a{pub var x;main{}}", "module b{main{out a.x;}}"}, api.ErrNone},
	} {
		wantUnits(t, c.what, c.l, c.want)
	}
}

// L2: what Face and Resolve tell comes in the order of Sort, whatever the order of the texts.
func TestErrorsInOrder(t *testing.T) {
	bodies := map[api.Errno]string{api.ErrThere: "var x;var x;main{}}", api.ErrNone: "main{out x;}}", api.ErrWrong: "const x=1;main{x=1;}}", api.ErrCount: "proc x(n){}main{x();}}"}
	for e, first := range bodies {
		for _, second := range bodies {
			for _, l := range orders([]string{"module c{main{}}", "module d{" + first, "module e{" + second}) {
				wantUnits(t, "the least name", l, e)
			}
			for _, l := range orders([]string{"module z{" + first, "module a{use z;" + second, "module b{use z;use a;main{}}"}) {
				wantUnits(t, "what is used", l, e)
			}
		}
	}
}

// L2: Gen's and Link's errors, behind those of Units: code and data that are too much.
func TestBuildMuch(t *testing.T) {
	for _, c := range []struct {
		l    []string
		want api.Errno
	}{
		{[]string{much("a", 12)}, api.OK},      // too many bytes for an object, which Build does not ask for
		{[]string{much("a", 13)}, api.ErrMany}, // Link's
		{[]string{much("a", 14)}, api.ErrMany}, // Gen's
		{[]string{much("a", 6), much("b", 6)}, api.OK},
		{[]string{much("a", 6), much("b", 7)}, api.ErrMany},
		{[]string{much("a", 3), much("b", 3), much("c", 3), much("d", 3)}, api.OK},
		{[]string{much("a", 3), much("b", 4), much("c", 3), much("d", 3)}, api.ErrMany},
		{[]string{heavy("a", 320), heavy("b", 192)}, api.OK},
		{[]string{heavy("a", 320), heavy("b", 193)}, api.ErrMany},
		{[]string{heavy("a", 128), heavy("b", 128), heavy("c", 128), heavy("d", 128)}, api.OK},
		{[]string{heavy("a", 128), heavy("b", 129), heavy("c", 128), heavy("d", 128)}, api.ErrMany},
	} {
		for _, l := range orders(c.l) {
			wantBuild(t, "much", l, c.want)
			if u, e := build.Units(l); e != api.OK || len(u) != len(l) {
				t.Errorf("Units of much: %d %d", len(u), e)
			}
		}
	}
	m, e := build.Build([]string{heavy("a", 320), heavy("b", 192)})
	if e != api.OK || m.Data != api.MaxData {
		t.Errorf("%d numbers, %d", m.Data, e)
	}
	wantUnits(t, "much, and a name", []string{much("a", 14), "module b{main{out x;}}"}, api.ErrNone)
	wantUnits(t, "much, and one another", []string{much("a", 14), "module b{use b;main{}}"}, api.ErrRound)
}

// P2, P3: lists stay as they are, with the room behind them; an answer is the caller's.
func TestAnswers(t *testing.T) {
	spare := append(slices.Clone(programs()[4]), "spare")
	slices.Reverse(spare[:4])
	was := slices.Clone(spare)
	l := spare[:4]
	first, _ := build.Units(l)
	second, _ := build.Units(l)
	image, _ := build.Build(l)
	again, _ := build.Build(l)
	_, a := faceOf(t, cnt)
	faces := []string{a, "spare"}
	_, _, e := build.Compile(top, faces[:1])
	if e != api.OK || !slices.Equal(spare, was) || faces[0] != a || faces[1] != "spare" {
		t.Errorf("what was handed in is changed: %q, %q, %d", spare, faces, e)
	}
	spoil(first)
	for i := range image.Code[:cap(image.Code)] {
		image.Code[:cap(image.Code)][i] = api.Instr{Op: 99}
	}
	clear(l)
	third, _ := build.Units(was[:4])
	if want := units(t, programs()[4]); !same(second, want) || !same(third, want) {
		t.Errorf("%+v and %+v, must be %+v", second, third, want)
	}
	if m, _ := build.Build(was[:4]); !same(again, m) {
		t.Errorf("%+v, must be %+v", again, m)
	}
}

// spoil changes all lists of units but for those of statements.
func spoil(l []api.Unit) {
	for i := range l {
		for k := range l[i].Uses[:cap(l[i].Uses)] {
			l[i].Uses[:cap(l[i].Uses)][k] = "no"
		}
		for k := range l[i].Parts {
			clear(l[i].Parts[k].Body[:cap(l[i].Parts[k].Body)])
		}
		clear(l[i].Parts)
		clear(l[i].Main[:cap(l[i].Main)])
	}
}

// P2: no two lists of an answer share memory: what becomes of one unit is not seen in another.
func TestNoSharing(t *testing.T) {
	u, e := build.Units(programs()[4])
	want := units(t, programs()[4])
	if e != api.OK {
		t.Fatal(e)
	}
	for i := range u {
		spoil(u[i : i+1])
		if !same(u[i+1:], want[i+1:]) {
			t.Fatalf("a change of %s is seen: %+v", u[i].Name, u[i+1:])
		}
	}
}
