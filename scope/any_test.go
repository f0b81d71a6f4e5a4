package scope

import (
	"math/rand"
	"reflect"
	"slices"
	"strings"
	"testing"

	"bellwright/api"
	"bellwright/tree"
)

// maker makes modules and faces by chance, the same each time; names are few, so that many stand for something; one in wild of its things is wrong (none, if that is 0).
type maker struct {
	*rand.Rand
	wild int
}

func (g maker) odd() bool { return g.wild > 0 && g.Intn(g.wild) == 0 }

func (g maker) pick(l ...string) string { return l[g.Intn(len(l))] }

func (g maker) name(l ...string) string {
	if g.odd() {
		return g.pick("", "A", "in", "z", "b", "k0", "v0", "p0", "l1", "l1")
	}
	return g.pick(l...)
}

// ref tells a module and a name: what is declared by TestAnything's modules under that first letter.
func (g maker) ref(kinds string) (string, string) {
	k := string(kinds[g.Intn(len(kinds))])
	if g.Intn(3) == 0 {
		return g.name("b", "c"), g.name(k + "0")
	}
	return "", g.name(k+"0", k+"0", k+"1")
}

func (g maker) exprs(n, deep int) []api.Expr {
	var l []api.Expr
	for range n {
		l = append(l, g.expr(deep))
	}
	return l
}

func (g maker) handed() int {
	if g.Intn(6) == 0 {
		return g.Intn(4)
	}
	return 1
}

func (g maker) expr(deep int) api.Expr {
	x := api.Expr{Op: 1 + g.Intn(15)}
	if deep > 3 {
		x.Op = 1 + g.Intn(3)
	}
	switch x.Op {
	case api.Num:
		x.N = g.Intn(100)
	case api.In:
	case api.Var:
		x.Mod, x.Name = g.ref("kvlkvlkvlkvlkvlkvlkvlt")
	case api.Elem:
		x.Mod, x.Name = g.ref("ttttttttttttp")
		x.Args = g.exprs(1, deep+1)
	case api.Call:
		x.Mod, x.Name = g.ref("ppppppppppppv")
		x.Args = g.exprs(g.handed(), deep+1)
	case api.Not:
		x.Args = g.exprs(1, deep+1)
	default:
		x.Args = g.exprs(2, deep+1)
	}
	if g.odd() {
		x.Op, x.N = g.Intn(18)-1, g.Intn(5)-2
	}
	return x
}

func (g maker) block(deep int) []api.Stmt {
	var l []api.Stmt
	for range g.Intn(4) {
		l = append(l, g.stmt(deep))
	}
	return l
}

func (g maker) stmt(deep int) api.Stmt {
	s := api.Stmt{Op: 1 + g.Intn(7)}
	if deep > 2 && (s.Op == api.If || s.Op == api.While) {
		s.Op = api.Out
	}
	args := 1
	switch s.Op {
	case api.Set:
		s.Mod, s.Name = g.ref("vvvvvvvlllllk")
	case api.Put:
		s.Mod, s.Name = g.ref("ttttttttttttv")
		args = 2
	case api.Do:
		s.Mod, s.Name = g.ref("pppppppppppppt")
		args = g.handed()
	case api.If:
		s.Body, s.Other = g.block(deep+1), g.block(deep+1)
	case api.While:
		s.Body = g.block(deep + 1)
	}
	s.Args = g.exprs(args, 1)
	if g.odd() {
		s.Op = g.Intn(10) - 1
	}
	return s
}

func (g maker) module() api.Module {
	m := api.Module{Name: g.name("m"), Uses: []string{g.name("b"), g.name("c")}, Main: g.block(1)}
	for _, d := range []api.Decl{{Kind: api.Const, Name: "k0", N: 5}, {Kind: api.Global, Name: "v0"}, {Kind: api.Array, Name: "t0", N: 6}, {Kind: api.Global, Name: "v1"}, {Kind: api.Const, Name: "k1"}, {Kind: api.Array, Name: "t1", N: 2}} {
		d.Name = g.name(d.Name)
		d.Pub = g.Intn(2) == 0
		if g.odd() {
			d.Kind, d.N = g.Intn(6), g.Intn(40)
		}
		m.Decls = append(m.Decls, d)
	}
	for _, s := range []string{"p0", "p1"} {
		p := api.Proc{Name: g.name(s), Pub: g.Intn(2) == 0, Params: []string{g.name("l0")}, Locals: []string{g.name("l1"), g.name("k0", "x", "t1")}, Body: g.block(1)}
		m.Procs = append(m.Procs, p)
	}
	return m
}

func (g maker) face(name string) api.Face {
	f := api.Face{Name: g.name(name)}
	for _, it := range []api.Item{{Kind: api.Const, Name: "k0", N: 9}, {Kind: api.Global, Name: "v0", At: 3}, {Kind: api.Array, Name: "t0", N: 4, At: 7}, {Kind: api.Routine, Name: "p0", N: 1, At: 2}, {Kind: api.Global, Name: "l0", At: 1}} {
		it.Name = g.name(it.Name)
		if g.odd() {
			it.Kind, it.N, it.At = g.Intn(6), g.Intn(40), g.Intn(400)-20
		}
		f.Items = append(f.Items, it)
	}
	return f
}

// thing is a statement or an expression with the name that it has, and the kinds that its place asks for.
type thing struct {
	mod, name, kinds string
	handed           int
}

// things tells all names of a block in the order in which they are asked.
func things(l []api.Stmt) []thing {
	var all []thing
	var exprs func(l []api.Expr)
	exprs = func(l []api.Expr) {
		for _, x := range l {
			if kinds := map[int]string{api.Var: "kvl", api.Elem: "t", api.Call: "p"}[x.Op]; kinds != "" {
				all = append(all, thing{x.Mod, x.Name, kinds, len(x.Args)})
			}
			exprs(x.Args)
		}
	}
	for _, s := range l {
		if kinds := map[int]string{api.Set: "vl", api.Put: "t", api.Do: "p"}[s.Op]; kinds != "" {
			all = append(all, thing{s.Mod, s.Name, kinds, len(s.Args)})
		}
		exprs(s.Args)
		all = append(all, things(s.Body)...)
		all = append(all, things(s.Other)...)
	}
	return all
}

// wantOf tells by another way which error Resolve has: all that are declared are listed, and looked through from the end.
func wantOf(m api.Module, l []api.Face) api.Errno {
	if e := tree.Check(m); e != api.OK {
		return e
	}
	type known struct {
		mod, name, kind string
		params          int
	}
	letters := []string{"", "k", "v", "t", "p"}
	var all []known
	var declared []string
	for _, d := range m.Decls {
		all = append(all, known{"", d.Name, letters[d.Kind], 0})
		declared = append(declared, d.Name)
	}
	for _, p := range m.Procs {
		all = append(all, known{"", p.Name, "p", len(p.Params)})
		declared = append(declared, p.Name)
	}
	if hasTwo(m.Uses) || hasTwo(declared) {
		return api.ErrThere
	}
	if len(l) != len(m.Uses) {
		return api.ErrCount
	}
	for i, f := range l {
		if Check(f) != api.OK || f.Name != m.Uses[i] {
			return api.ErrForm
		}
		for _, it := range f.Items {
			all = append(all, known{f.Name, it.Name, letters[it.Kind], it.N})
		}
	}
	for _, p := range append(slices.Clone(m.Procs), api.Proc{Body: m.Main}) {
		locals := slices.Concat(p.Params, p.Locals)
		if hasTwo(locals) {
			return api.ErrThere
		}
		seen := slices.Clone(all)
		for _, s := range locals {
			seen = append(seen, known{"", s, "l", 0})
		}
		slices.Reverse(seen)
		for _, x := range things(p.Body) {
			i := slices.IndexFunc(seen, func(k known) bool { return k.mod == x.mod && k.name == x.name })
			switch {
			case i < 0:
				return api.ErrNone
			case !strings.Contains(x.kinds, seen[i].kind):
				return api.ErrWrong
			case x.kinds == "p" && seen[i].params != x.handed:
				return api.ErrCount
			}
		}
	}
	return api.OK
}

func hasTwo(l []string) bool {
	l = slices.Sorted(slices.Values(l))
	return len(slices.Compact(slices.Clone(l))) < len(l)
}

// C1, C3, P1: whatever is handed in, nothing panics, an error comes with nothing beside, and it is the one that is named first.
func TestAnything(t *testing.T) {
	count := map[api.Errno]int{}
	for seed := range 8000 {
		g := maker{rand.New(rand.NewSource(int64(seed))), seed % 4 * 90}
		m := g.module()
		l := []api.Face{g.face("b"), g.face("c")}
		if g.odd() {
			l = l[1:]
		}
		before := tell(m) + tell(l)
		u, e := Resolve(m, l)
		count[e]++
		if want := wantOf(m, l); e != want || e != api.OK && !same(u, api.Unit{}) {
			t.Fatalf("Resolve %d, must be %d: %+v\nof %+v\n%+v", e, want, u, m, l)
		}
		f, d := Face(m)
		if (d == api.OK) != (Check(f) == api.OK) || d != api.OK && !same(f, api.Face{}) || d != api.OK && d != e {
			t.Fatalf("Face %d, its Check %d, Resolve %d of %+v", d, Check(f), e, m)
		}
		again, c := Resolve(m, l)
		if c != e || !same(u, again) {
			t.Fatalf("Resolve tells %d, then %d", e, c)
		}
		if tell(m)+tell(l) != before {
			t.Fatal("what was handed in is changed")
		}
	}
	for _, e := range []api.Errno{api.OK, api.ErrForm, api.ErrKind, api.ErrNone, api.ErrThere, api.ErrWrong, api.ErrCount} {
		if count[e] < 50 {
			t.Errorf("only %d modules have %d: %v", count[e], e, count)
		}
	}
}

// P1: lists that lie in themselves, and long ones, end as well.
func TestRound(t *testing.T) {
	x := []api.Expr{{Op: api.Not}}
	x[0].Args = x
	m := api.Module{Name: "m", Main: []api.Stmt{{Op: api.Out, Args: x}}}
	wantFace(t, m, api.ErrMany)
	wantResolve(t, "an expression in itself", m, nil, api.ErrMany)
	s := []api.Stmt{{Op: api.While, Args: []api.Expr{{Op: api.In}}}}
	s[0].Body = s
	m.Main = s
	wantFace(t, m, api.ErrMany)
	wantResolve(t, "a block in itself", m, nil, api.ErrMany)
	wantResolve(t, "far too many faces", api.Module{Name: "m"}, make([]api.Face, 1<<16), api.ErrCount)
	m = api.Module{Name: "m", Uses: make([]string, 1<<16)}
	wantFace(t, m, api.ErrMany)
	wantResolve(t, "far too many uses", m, make([]api.Face, 1<<16), api.ErrMany)
	wantCheck(t, "a long name", api.Face{Name: strings.Repeat("a", 1<<20)}, api.ErrForm)
}

const wholeText = "module m{use b;use c;pub const k=1;pub var v;pub array t[3];pub proc p(x,y)local z;{if x{z=y;}else{t[x]=(y+b.v0);}while z{z=(z-1);}return z;}main{out p(k,b.t0[1]);c.p0(2);p(1,(2*v));}}"

// P2: what is handed in stays as it is, with the spare room behind its lists.
func TestHandedIn(t *testing.T) {
	g := maker{rand.New(rand.NewSource(1)), 0}
	for _, spoil := range []string{"", "nothing"} {
		m, l := mod(t, wholeText), []api.Face{g.face("b"), g.face("c")}
		if spoil != "" {
			m.Main[2].Name = spoil
		}
		roomy(reflect.ValueOf(&m).Elem())
		roomy(reflect.ValueOf(&l).Elem())
		before := tell(m) + tell(l)
		if !strings.Contains(before, "spare") {
			t.Fatal("no spare room")
		}
		Face(m)
		Resolve(m, l)
		Check(l[0])
		if tell(m)+tell(l) != before {
			t.Errorf("it was\n%s\nand is\n%s", before, tell(m)+tell(l))
		}
	}
}

// P2, P3: an answer is the caller's: its lists share no memory with one another, with another answer, or with what was handed in.
func TestAnswers(t *testing.T) {
	g := maker{rand.New(rand.NewSource(1)), 0}
	m, l := mod(t, wholeText), []api.Face{g.face("b"), g.face("c")}
	roomy(reflect.ValueOf(&m).Elem())
	var all [][2]uintptr
	all = spans(reflect.ValueOf(m), all)
	all = spans(reflect.ValueOf(l), all)
	for range 2 {
		u, e := Resolve(m, l)
		f, d := Face(m)
		if e != api.OK || d != api.OK {
			t.Fatalf("Resolve %d, Face %d", e, d)
		}
		all = spans(reflect.ValueOf(u), all)
		all = spans(reflect.ValueOf(f), all)
	}
	if len(all) < 80 || overlap(all) {
		t.Errorf("of %d lists some share memory", len(all))
	}
	// A later change of what was handed in is not seen in an answer.
	u, _ := Resolve(m, l)
	before := tell(u)
	m.Uses[0], m.Main[0].Op, l[0].Items[0].N, l[1].Name = "x", 0, 77, "y"
	if tell(u) != before {
		t.Error("a unit changed with its module")
	}
	// An empty list may be nil or not.
	m = mod(t, "module m{main{}}")
	full := api.Module{Name: "m", Uses: []string{}, Decls: []api.Decl{}, Procs: []api.Proc{}, Main: []api.Stmt{}}
	a, e := Resolve(m, nil)
	b, d := Resolve(full, []api.Face{})
	if e != api.OK || d != api.OK || !same(a, b) {
		t.Errorf("%+v %d, %+v %d", a, e, b, d)
	}
}
