package sem

import (
	"math/rand"
	"reflect"
	"slices"
	"strings"
	"testing"

	"bellwright/api"
	"bellwright/scope"
)

// maker makes right programs by chance, the same each time: each module has a constant k, a variable v, an array t, and procedures p of one and q of two numbers, with a local l; those of one that is used are told with its name.
type maker struct {
	*rand.Rand
	uses   []string
	inProc bool
}

func (g maker) mod() string {
	if len(g.uses) > 0 && g.Intn(3) == 0 {
		return g.uses[g.Intn(len(g.uses))]
	}
	return ""
}

func (g maker) exprs(n, deep int) []api.Expr {
	var l []api.Expr
	for range n {
		l = append(l, g.expr(deep))
	}
	return l
}

func (g maker) expr(deep int) api.Expr {
	if deep > 3 || g.Intn(3) == 0 {
		return g.leaf()
	}
	switch op := api.Elem + g.Intn(12); op {
	case api.Elem:
		return api.Expr{Op: op, Mod: g.mod(), Name: "t", Args: g.exprs(1, deep+1)}
	case api.Call:
		return api.Expr{Op: op, Mod: g.mod(), Name: "p", Args: g.exprs(1, deep+1)}
	case api.Not:
		return api.Expr{Op: op, Args: g.exprs(1, deep+1)}
	case api.Div, api.Rem: // seldom by 0
		return api.Expr{Op: op, Args: []api.Expr{g.expr(deep + 1), {Op: api.Or, Args: []api.Expr{g.leaf(), g.leaf()}}}}
	default:
		return api.Expr{Op: op, Args: g.exprs(2, deep+1)}
	}
}

func (g maker) leaf() api.Expr {
	switch g.Intn(6) {
	case 0, 1:
		return api.Expr{Op: api.Num, N: g.Intn(4)}
	case 2:
		return api.Expr{Op: api.In}
	case 3:
		return api.Expr{Op: api.Var, Mod: g.mod(), Name: "k"}
	}
	if g.inProc && g.Intn(2) == 0 {
		return api.Expr{Op: api.Var, Name: []string{"x", "l"}[g.Intn(2)]}
	}
	return api.Expr{Op: api.Var, Mod: g.mod(), Name: "v"}
}

func (g maker) block(deep int) []api.Stmt {
	var l []api.Stmt
	for range 1 + g.Intn(4) {
		l = append(l, g.stmt(deep))
	}
	return l
}

func (g maker) stmt(deep int) api.Stmt {
	op := 1 + g.Intn(8)
	if deep > 2 && (op == api.If || op == api.While) || op == 8 {
		op = api.Out
	}
	switch op {
	case api.Set:
		if g.inProc && g.Intn(2) == 0 {
			return api.Stmt{Op: op, Name: []string{"x", "l"}[g.Intn(2)], Args: g.exprs(1, 1)}
		}
		return api.Stmt{Op: op, Mod: g.mod(), Name: "v", Args: g.exprs(1, 1)}
	case api.Put:
		return api.Stmt{Op: op, Mod: g.mod(), Name: "t", Args: g.exprs(2, 1)}
	case api.Do:
		return api.Stmt{Op: op, Mod: g.mod(), Name: "q", Args: g.exprs(2, 1)}
	case api.If:
		return api.Stmt{Op: op, Args: g.exprs(1, 1), Body: g.block(deep + 1), Other: g.block(deep + 1)}
	case api.While:
		return api.Stmt{Op: op, Args: g.exprs(1, 1), Body: g.block(deep + 1)}
	default:
		return api.Stmt{Op: op, Args: g.exprs(1, 1)}
	}
}

func (g maker) module(name string) api.Module {
	m := api.Module{Name: name, Uses: g.uses, Main: g.block(1)}
	m.Decls = []api.Decl{{Kind: api.Const, Name: "k", Pub: true, N: g.Intn(5)}, {Kind: api.Array, Name: "t", Pub: true, N: 1 + g.Intn(6)}, {Kind: api.Global, Name: "v", Pub: true}}
	g.inProc = true
	for _, p := range []api.Proc{{Name: "p", Params: []string{"x"}}, {Name: "q", Params: []string{"y", "x"}}} {
		p.Pub, p.Locals, p.Body = true, []string{"l"}, g.block(1)
		m.Procs = append(m.Procs, p)
	}
	return m
}

func (g maker) program(t *testing.T) []api.Unit {
	names := []string{"a", "b", "c", "d"}[:1+g.Intn(4)]
	faces := map[string]api.Face{}
	var l []api.Unit
	for i, n := range names {
		g.uses = nil
		var handed []api.Face
		for _, u := range names[:i] {
			if g.Intn(2) == 0 {
				g.uses = append(g.uses, u)
				handed = append(handed, faces[u])
			}
		}
		m := g.module(n)
		f, e := scope.Face(m)
		u, d := scope.Resolve(m, handed)
		if e != api.OK || d != api.OK {
			t.Fatalf("Face %d, Resolve %d", e, d)
		}
		faces[n] = f
		l = append(l, u)
	}
	return l
}

func (g maker) in() []int {
	l := make([]int, g.Intn(6))
	for i := range l {
		l[i] = g.Intn(7) - 2
	}
	return l
}

// D1, D4: what is resolved is a right program; with more ticks the same comes, or what is told first is what was told.
func TestMoreTicks(t *testing.T) {
	count := map[int]int{}
	for seed := range 1200 {
		g := maker{Rand: rand.New(rand.NewSource(int64(seed)))}
		l := g.program(t)
		if e := Check(l); e != api.OK {
			t.Fatalf("Check %d of what is resolved: %+v", e, l)
		}
		size := 0
		for _, u := range l {
			size += u.Data
		}
		in := g.in()
		last := api.Result{End: api.NoTicks}
		for _, ticks := range []int{0, 1, 2, 5, 17, 60, 400, api.MaxTicks} {
			r, e := Run(l, in, ticks)
			again, _ := Run(l, in, ticks)
			if e != api.OK || !same(r, again) || len(r.Data) != size || r.Ticks > ticks || r.Ticks < last.Ticks || len(r.Out) > api.MaxOut {
				t.Fatalf("%d ticks: %+v %d, then %+v", ticks, r, e, again)
			}
			if last.End != api.NoTicks && !same(r, last) || last.End == api.NoTicks && !slices.Equal(r.Out[:len(last.Out)], last.Out) || r.End == api.NoTicks && r.Ticks != ticks {
				t.Fatalf("%d ticks: %+v, with fewer %+v", ticks, r, last)
			}
			last = r
		}
		count[last.End]++
	}
	for end := api.Ended; end <= api.FullOut; end++ {
		if count[end] < 10 {
			t.Errorf("only %d runs end by %d: %v", count[end], end, count)
		}
	}
}

// spots gathers what may be spoilt of a value: numbers, texts, lists.
func spots(v reflect.Value, l []reflect.Value) []reflect.Value {
	switch v.Kind() {
	case reflect.Slice:
		l = append(l, v)
		for i := range v.Len() {
			l = spots(v.Index(i), l)
		}
	case reflect.Struct:
		for i := range v.NumField() {
			l = spots(v.Field(i), l)
		}
	default:
		l = append(l, v)
	}
	return l
}

func (g maker) spoil(l *[]api.Unit) {
	all := spots(reflect.ValueOf(l).Elem(), nil)
	if g.Intn(3) == 0 { // else what stands outside of bodies is seldom met
		all = []reflect.Value{all[0]}
		for i := range *l {
			u := &(*l)[i]
			all = append(all, spots(reflect.ValueOf(&u.Name).Elem(), nil)...)
			all = append(all, spots(reflect.ValueOf(&u.Uses).Elem(), nil)...)
			all = append(all, reflect.ValueOf(&u.Data).Elem(), reflect.ValueOf(&u.Parts).Elem())
		}
	}
	switch v := all[g.Intn(len(all))]; v.Kind() {
	case reflect.Int:
		v.SetInt([]int64{-1, 0, 1, 2, 3, 5, 7, 16, 40, 600, 1<<63 - 1, -1 << 63}[g.Intn(12)])
	case reflect.String:
		v.SetString([]string{"", "a", "b", "in", "A"}[g.Intn(5)])
	case reflect.Slice:
		if n := v.Len(); n > 0 && g.Intn(2) == 0 {
			v.Set(v.Slice(0, n-1))
		} else if n > 0 {
			v.Set(reflect.AppendSlice(v.Slice3(0, n, n), v))
		}
	}
}

// P1, P2, P3: whatever is handed in, nothing panics; an error comes with nothing beside; what was handed in stays as it was.
func TestAnything(t *testing.T) {
	count := map[api.Errno]int{}
	for seed := range 1500 {
		g := maker{Rand: rand.New(rand.NewSource(int64(seed)))}
		l := copied(g.program(t))
		for range 1 + g.Intn(2) {
			g.spoil(&l)
		}
		in := g.in()
		before := tell(l) + tell(in)
		e := Check(l)
		r, f := Run(l, in, 100)
		count[e]++
		if f != e || e != api.OK && !same(r, api.Result{}) {
			t.Fatalf("Check %d, Run %+v %d of %+v", e, r, f, l)
		}
		if tell(l)+tell(in) != before {
			t.Fatalf("what was handed in is changed: %+v", l)
		}
	}
	for _, e := range []api.Errno{api.OK, api.ErrForm, api.ErrThere, api.ErrRound, api.ErrMany} {
		if count[e] < 5 {
			t.Errorf("only %d programs have %d: %v", count[e], e, count)
		}
	}
}

// P1: lists that lie in themselves end as well.
func TestRound(t *testing.T) {
	x := []api.Node{{Op: api.Not}}
	x[0].Args = x
	l := named("a")
	l[0].Main = []api.Act{{Op: api.Out, Args: x}}
	wantCheck(t, "an expression in itself", l, api.ErrForm)
	s := []api.Act{{Op: api.While, Args: []api.Node{num(1)}}, {Op: api.If, Args: []api.Node{num(1)}}}
	s[0].Body, s[1].Body, s[1].Other = s, s, s
	l[0].Main = s
	wantCheck(t, "a block in itself", l, api.ErrForm)
	l[0].Main, l[0].Parts = nil, []api.Part{{Body: s}}
	wantCheck(t, "a part's block in itself", l, api.ErrForm)
}

// P2: what is handed in stays as it is, with the spare room behind its lists.
func TestHandedIn(t *testing.T) {
	l := program(t, cnt, top, "module o{use top;use cnt;proc p(a){a=cnt.t[1];}main{p(cnt.k);while in{out in;}}}")
	in := []int{1, 5, 6}
	roomy(reflect.ValueOf(&l).Elem(), 2)
	roomy(reflect.ValueOf(&in).Elem(), 2)
	for _, ticks := range []int{0, 5, 100, -1} {
		before := tell(l) + tell(in)
		if !strings.Contains(before, "spare") || !strings.Contains(before, "4711") {
			t.Fatal("no spare room")
		}
		Check(l)
		Run(l, in, ticks)
		if tell(l)+tell(in) != before {
			t.Errorf("it was\n%s\nand is\n%s", before, tell(l)+tell(in))
		}
	}
}

// P2, P3: an answer is the caller's: a change of it is seen nowhere.
func TestAnswers(t *testing.T) {
	l, in := program(t, cnt, top), []int{1}
	first := run(t, l, in...)
	second := run(t, l, in...)
	told := tell(second)
	for i := range first.Out[:cap(first.Out)] {
		first.Out[:cap(first.Out)][i] = 99
	}
	for i := range first.Data[:cap(first.Data)] {
		if first.Data[:cap(first.Data)][i] == 99 {
			t.Error("Out and Data share memory")
		}
		first.Data[:cap(first.Data)][i] = 98
	}
	if slices.Contains(first.Out[:cap(first.Out)], 98) {
		t.Error("Data and Out share memory")
	}
	if third := run(t, l, in...); tell(second) != told || !same(third, second) || in[0] != 1 {
		t.Error("an answer changed with another one")
	}
}
