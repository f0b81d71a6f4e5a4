package link_test

import (
	"fmt"
	"math/rand"
	"slices"
	"testing"

	"bellwright/api"
	"bellwright/link"
	"bellwright/mach"
	"bellwright/sem"
)

// The document's example: top uses cnt.
const (
	cnt = "module cnt{pub const k=3;pub var sum;pub array t[4];pub proc down(n)local i;{i=n;while i{sum=(sum+i);i=(i-1);}return sum;}main{}}"
	top = "module top{use cnt;main{cnt.t[1]=cnt.down(cnt.k);out cnt.t[in];if(cnt.sum=6){out 7;}else{out 8;}}}"
)

// wantSame holds what linked code does against what the units mean, and tells it.
func wantSame(t *testing.T, units []api.Unit, objects []api.Object, in []int, ticks int) api.Result {
	t.Helper()
	m, e := link.Link(objects)
	if e != api.OK || mach.Check(m) != api.OK {
		t.Fatalf("Link %d, Check %d of %+v", e, mach.Check(m), objects)
	}
	want, d := sem.Run(units, in, ticks)
	got, _, f := mach.Run(m, in, ticks, api.MaxSteps)
	if d != api.OK || f != api.OK || !same(got, want) {
		t.Fatalf("with %v and %d ticks the code tells %+v %d, the units mean %+v %d: %+v", in, ticks, got, f, want, d, units)
	}
	return want
}

// I2, I3: what the example tells, and how it ends.
func TestExampleRun(t *testing.T) {
	units, objects := program(t, cnt, top)
	for _, c := range []struct {
		in, ticks int
		want      api.Result
	}{
		{1, 100, api.Result{Out: []int{6, 7}, Data: []int{6, 0, 6, 0, 0}, Ticks: 6}},
		{4, 100, api.Result{End: api.Outside, Data: []int{6, 0, 6, 0, 0}, Ticks: 6}},
		{1, 4, api.Result{End: api.NoTicks, Data: []int{3, 0, 0, 0, 0}, Ticks: 4}},
	} {
		if r := wantSame(t, units, objects, []int{c.in}, c.ticks); !same(r, c.want) {
			t.Errorf("%+v, must be %+v", r, c.want)
		}
	}
}

// I3: each kind of expression and of statement, and each end, does what it means.
func TestKinds(t *testing.T) {
	const begin = "module m{var v;array t[3];proc s(x){out x;return x;}proc z(){return(1/0);}proc n(a,b,c)local d;local e;{d=(a-b);e=(c*d);if e{return e;}}proc r(){v=(v+1);r();}main{"
	ends := map[int]int{}
	for _, s := range []string{
		"", "out 5;", "out in;out in;out in;", "v=7;out v;", "t[2]=9;out t[2];out t[1];", "out !0;out !5;", "out(in&in);out(0&s(1));out(3&s(2));out(3&s(0));", "out(in|in);out(3|s(1));out(0|s(2));out(0|s(0));",
		"out(7+in);out(7-in);out(7*in);out(7/in);out(7%in);", "out(3=3);out(3=4);out(3<4);out(4<3);out(3<3);", "out n(5,3,4);out n(3,3,4);n(1,2,3);",
		"if in{out 1;}", "if in{out 1;}else{out 2;}", "if 0{}else{out 2;}", "while(v<3){v=(v+1);if(v=2){out v;}}", "out 1;return 3;out 2;", "while 1{v=(v+1);if(v=5){return 0;}}",
		"t[s(1)]=s(2);", "t[s(3)]=s(2);", "out(s(1)+(s(2)-s(3)));", "out n(s(1),s(2),s(3));", "out z();", "out(1%0);", "out t[3];", "out t[(0-1)];", "t[3]=(1/0);", "r();", "while 1{}", "while 1{out v;v=(v+1);}",
		"out((0-9223)/2);out((0-7)%3);out((0-1)<0);", "v=1;while v{v=(v*3);}",
	} {
		units, objects := program(t, begin+s+"}}")
		for _, in := range [][]int{nil, {1}, {0, 5}, {-2, 0, 7}, {3, 3, 3, 3, 3}} {
			for _, ticks := range []int{0, 1, 2, 3, 10, 100, api.MaxTicks} {
				ends[wantSame(t, units, objects, in, ticks).End]++
			}
		}
	}
	for end := api.Ended; end <= api.FullOut; end++ {
		if ends[end] < 3 {
			t.Errorf("only %d runs end by %d", ends[end], end)
		}
	}
}

// I3: modules that share data and call one another, in whatever order they use one another.
func TestModules(t *testing.T) {
	a := "module a{pub var x;pub array t[5];pub proc inc(n){x=(x+n);return x;}pub proc two(n,m){t[n]=m;}main{x=9;t[4]=1;}}"
	b := "module b{use a;pub var y;var w;pub proc set(n,m){y=(n-m);a.x=(a.x+1);w=a.inc(y);}main{out a.x;y=2;}}"
	c := "module c{use b;use a;array u[3];main{u[2]=4;b.set(a.x,4);out b.y;out a.x;a.two(u[2],7);out a.t[4];out u[2];}}"
	d := "module d{use a;use c;use b;main{out a.inc(b.y);a.two(5,1);}}"
	units, objects := program(t, a, b, c, d)
	for ticks := range 15 {
		r := wantSame(t, units, objects, nil, ticks)
		if want := []int{9, 5, 15, 7, 4, 20}; r.End == api.Outside && (!slices.Equal(r.Out, want) || ticks < 9) || ticks > 9 && r.End != api.Outside {
			t.Errorf("%d ticks: %+v", ticks, r)
		}
	}
}

// maker makes right programs by chance, the same each time: each module has a constant k, a variable v, an array t, and procedures p of one and q of two numbers, with a local l; those of one that is used are told with its name.
type maker struct {
	*rand.Rand
	uses   []string
	inProc bool
}

func (g maker) mod() string {
	if len(g.uses) > 0 && g.Intn(3) == 0 {
		return g.uses[g.Intn(len(g.uses))]
	}
	return ""
}

func (g maker) exprs(n, deep int) []api.Expr {
	var l []api.Expr
	for range n {
		l = append(l, g.expr(deep))
	}
	return l
}

func (g maker) expr(deep int) api.Expr {
	if deep > 3 || g.Intn(3) == 0 {
		return g.leaf()
	}
	switch op := api.Elem + g.Intn(12); op {
	case api.Elem:
		return api.Expr{Op: op, Mod: g.mod(), Name: "t", Args: g.exprs(1, deep+1)}
	case api.Call:
		return api.Expr{Op: op, Mod: g.mod(), Name: "p", Args: g.exprs(1, deep+1)}
	case api.Not:
		return api.Expr{Op: op, Args: g.exprs(1, deep+1)}
	case api.Div, api.Rem: // seldom by 0
		return api.Expr{Op: op, Args: []api.Expr{g.expr(deep + 1), {Op: api.Or, Args: []api.Expr{g.leaf(), g.leaf()}}}}
	default:
		return api.Expr{Op: op, Args: g.exprs(2, deep+1)}
	}
}

func (g maker) leaf() api.Expr {
	switch g.Intn(6) {
	case 0, 1:
		return api.Expr{Op: api.Num, N: g.Intn(4)}
	case 2:
		return api.Expr{Op: api.In}
	case 3:
		return api.Expr{Op: api.Var, Mod: g.mod(), Name: "k"}
	}
	if g.inProc && g.Intn(2) == 0 {
		return api.Expr{Op: api.Var, Name: []string{"x", "l"}[g.Intn(2)]}
	}
	return api.Expr{Op: api.Var, Mod: g.mod(), Name: "v"}
}

func (g maker) block(deep int) []api.Stmt {
	var l []api.Stmt
	for range 1 + g.Intn(4) {
		l = append(l, g.stmt(deep))
	}
	return l
}

func (g maker) stmt(deep int) api.Stmt {
	op := 1 + g.Intn(8)
	if deep > 2 && (op == api.If || op == api.While) || op == 8 {
		op = api.Out
	}
	switch op {
	case api.Set:
		if g.inProc && g.Intn(2) == 0 {
			return api.Stmt{Op: op, Name: []string{"x", "l"}[g.Intn(2)], Args: g.exprs(1, 1)}
		}
		return api.Stmt{Op: op, Mod: g.mod(), Name: "v", Args: g.exprs(1, 1)}
	case api.Put:
		return api.Stmt{Op: op, Mod: g.mod(), Name: "t", Args: g.exprs(2, 1)}
	case api.Do:
		return api.Stmt{Op: op, Mod: g.mod(), Name: "q", Args: g.exprs(2, 1)}
	case api.If:
		s := api.Stmt{Op: op, Args: g.exprs(1, 1), Body: g.block(deep + 1)}
		if g.Intn(2) == 0 {
			s.Other = g.block(deep + 1)
		}
		return s
	case api.While:
		return api.Stmt{Op: op, Args: g.exprs(1, 1), Body: g.block(deep + 1)}
	default:
		return api.Stmt{Op: op, Args: g.exprs(1, 1)}
	}
}

func (g maker) module(name string) api.Module {
	m := api.Module{Name: name, Uses: g.uses, Main: g.block(1)}
	m.Decls = []api.Decl{{Kind: api.Const, Name: "k", Pub: true, N: g.Intn(5)}, {Kind: api.Array, Name: "t", Pub: true, N: 1 + g.Intn(6)}, {Kind: api.Global, Name: "v", Pub: true}}
	g.inProc = true
	for _, p := range []api.Proc{{Name: "p", Params: []string{"x"}}, {Name: "q", Params: []string{"y", "x"}}} {
		p.Pub, p.Locals, p.Body = true, []string{"l"}, g.block(1)
		m.Procs = append(m.Procs, p)
	}
	return m
}

func (g maker) program() []api.Module {
	names := []string{"a", "b", "c", "d"}[:1+g.Intn(4)]
	var l []api.Module
	for i, n := range names {
		g.uses = nil
		for _, k := range g.Perm(i)[:g.Intn(i+1)] {
			g.uses = append(g.uses, names[k])
		}
		l = append(l, g.module(n))
	}
	return l
}

// I3: whatever the program, linked code does what it means: the same numbers, the same end, the same data, as many ticks.
func TestPrograms(t *testing.T) {
	ends := map[int]int{}
	for seed := range 1500 {
		g := maker{Rand: rand.New(rand.NewSource(int64(seed)))}
		units, objects := compiled(t, g.program())
		if _, e := link.Link(objects); e == api.ErrMany { // too much code
			continue
		}
		in := make([]int, g.Intn(6))
		for i := range in {
			in[i] = g.Intn(7) - 2
		}
		for _, ticks := range []int{0, 1, 2, 5, 17, 60, 400, api.MaxTicks} {
			ends[wantSame(t, units, objects, in, ticks).End]++
		}
	}
	for end := api.Ended; end <= api.FullOut; end++ {
		if ends[end] < 20 {
			t.Errorf("only %d runs end by %d: %v", ends[end], end, ends)
		}
	}
}

// I3: as much as may be is linked, and runs.
func TestFull(t *testing.T) {
	s := "out((((1+2)+(3+4))+((5+6)+(7+8)))+in);" // 18 instructions
	block, all := "", ""
	for range 10 {
		block += s
	}
	for i := range 5 {
		all += fmt.Sprintf("if(in<%d){%s}", i, block)
	}
	units, objects := program(t, "module a{pub var v;main{"+all+"}}", "module b{use a;main{"+all+"a.v=in;}}")
	if _, e := link.Link(objects); e != api.OK {
		t.Fatal(e)
	}
	for _, in := range []int{-1, 2, 9} {
		wantSame(t, units, objects, repeat(in, api.MaxIn), api.MaxTicks)
	}
}
