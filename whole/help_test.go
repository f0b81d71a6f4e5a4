package whole_test

import (
	"fmt"
	"math/rand"
	"slices"
	"strings"
	"testing"

	"bellwright/api"
	"bellwright/whole"
)

// The document's example: top uses cnt.
const (
	cnt = "module cnt{pub const k=3;pub var sum;pub array t[4];pub proc down(n)local i;{i=n;while i{sum=(sum+i);i=(i-1);}return sum;}main{}}"
	top = "module top{use cnt;main{cnt.t[1]=cnt.down(cnt.k);out cnt.t[in];if(cnt.sum=6){out 7;}else{out 8;}}}"
)

// same holds values against each other, of which an empty list may be nil or not.
func same(a, b any) bool { return fmt.Sprintf("%+v", a) == fmt.Sprintf("%+v", b) }

// wantBoth asks that Mean and Exec tell this, and no error.
func wantBoth(t *testing.T, l []string, in []int, ticks int, want api.Result) {
	t.Helper()
	x, e := whole.Mean(l, in, ticks)
	y, d := whole.Exec(l, in, ticks)
	if e != api.OK || d != api.OK || !same(x, want) || !same(y, want) {
		t.Errorf("%q with %v and %d ticks: Mean %+v %d, Exec %+v %d, must be %+v", l, in, ticks, x, e, y, d, want)
	}
}

// wantErrors asks for the errors of Mean and Exec, with nothing beside.
func wantErrors(t *testing.T, what string, l []string, in []int, ticks int, ofMean, ofExec api.Errno) {
	t.Helper()
	x, e := whole.Mean(l, in, ticks)
	y, d := whole.Exec(l, in, ticks)
	if e != ofMean || d != ofExec || e != api.OK && !same(x, api.Result{}) || d != api.OK && !same(y, api.Result{}) {
		t.Errorf("%s: Mean %+v %d, Exec %+v %d, must be %d and %d", what, x, e, y, d, ofMean, ofExec)
	}
}

// orders tells all orders of some texts.
func orders(l []string) [][]string {
	if len(l) == 0 {
		return [][]string{nil}
	}
	var all [][]string
	for _, rest := range orders(l[1:]) {
		for at := range l {
			all = append(all, slices.Insert(slices.Clone(rest), at, l[0]))
		}
	}
	return all
}

// maker makes programs by chance, the same each time: each module has a constant k, a variable v, an array t, and procedures p of one and q of two numbers, with a local l; those of one that is used are told with its name. Numbers stand beside numbers often, so that there is something for peepholes.
type maker struct {
	*rand.Rand
	uses   []string
	inProc bool
}

// one tells one of some texts.
func (g maker) one(l ...string) string { return l[g.Intn(len(l))] }

// ref tells a name, seldom one of a module that is used.
func (g maker) ref(name string) string {
	if len(g.uses) > 0 && g.Intn(3) == 0 {
		return g.one(g.uses...) + "." + name
	}
	return name
}

func (g maker) number() string { return fmt.Sprint(g.Intn(4)) }

func (g maker) leaf() string {
	if g.inProc && g.Intn(3) == 0 {
		return g.one("x", "l")
	}
	return g.one(g.number(), g.number(), g.number(), "in", g.ref("k"), g.ref("v"))
}

func (g maker) expr(deep int) string {
	if deep > 4 || g.Intn(4) == 0 {
		return g.leaf()
	}
	switch g.Intn(9) {
	case 0:
		return "!" + g.expr(deep+1)
	case 1:
		return g.ref("t") + "[" + g.expr(deep+2) + "]"
	case 2:
		return g.ref("p") + "(" + g.expr(deep+1) + ")"
	case 3: // seldom by 0
		return "(" + g.expr(deep+1) + g.one("/", "%") + "(" + g.leaf() + "|" + g.leaf() + "))"
	case 4:
		return "(" + g.expr(deep+1) + g.one("&", "|") + g.expr(deep+1) + ")"
	}
	return "(" + g.expr(deep+1) + g.one("+", "-", "*", "=", "<") + g.expr(deep+1) + ")"
}

func (g maker) block(deep int) string {
	s := "{"
	for range 1 + g.Intn(3) {
		s += g.stmt(deep)
	}
	return s + "}"
}

func (g maker) stmt(deep int) string {
	x := g.expr(1)
	switch n := g.Intn(9); {
	case n == 0 && g.inProc:
		return g.one("x", "l") + "=" + x + ";"
	case n < 2:
		return g.ref("v") + "=" + x + ";"
	case n == 2:
		return g.ref("t") + "[" + g.one(g.number(), g.expr(1)) + "]=" + x + ";"
	case n == 3:
		return g.ref("q") + "(" + x + "," + g.expr(2) + ");"
	case n == 4 && deep < 4:
		return "if " + x + g.block(deep+1) + "else" + g.block(deep+1)
	case n == 5 && deep < 4:
		return "if " + g.one(x, g.number()) + g.block(deep+1)
	case n == 6 && deep < 4:
		return "while " + g.one(x, "(v<"+g.number()+")") + g.block(deep+1)
	case n == 7 && g.inProc:
		return "return " + x + ";"
	}
	return "out " + x + ";"
}

func (g maker) module(name string) string {
	s := "module " + name + "{"
	for _, use := range g.uses {
		s += "use " + use + ";"
	}
	s += fmt.Sprintf("pub const k=%d;pub array t[%d];pub var v;", g.Intn(5), 1+g.Intn(6))
	body := g.block(1)
	g.inProc = true
	return s + "pub proc p(x)local l;" + g.block(1) + "pub proc q(y,x)local l;" + g.block(1) + "main" + body + "}"
}

// program tells texts in any order, as many of them as may be.
func (g maker) program() []string {
	names := []string{"a", "b1", "b", "zz"}
	g.Shuffle(4, func(i, k int) { names[i], names[k] = names[k], names[i] })
	var l []string
	for i, name := range names[:1+g.Intn(4)] {
		g.uses = nil
		for _, k := range g.Perm(i)[:g.Intn(i+1)] {
			g.uses = append(g.uses, names[k])
		}
		l = append(l, g.module(name))
	}
	g.Shuffle(len(l), func(i, k int) { l[i], l[k] = l[k], l[i] })
	return l
}

func (g maker) in() []int {
	l := make([]int, g.Intn(8))
	for i := range l {
		l[i] = g.Intn(7) - 2
	}
	return l
}

// some tells programs with few enough bytes, and as much code as may be.
func some(t *testing.T, seeds int, play func(g maker, l []string)) {
	t.Helper()
	played := 0
	for seed := range seeds {
		g := maker{Rand: rand.New(rand.NewSource(int64(seed)))}
		l := g.program()
		if slices.ContainsFunc(l, func(s string) bool { return len(s) > api.MaxText }) {
			continue
		}
		if _, e := whole.Exec(l, nil, 0); e == api.ErrMany { // too much code
			continue
		}
		played++
		play(g, l)
	}
	if played < seeds*3/4 {
		t.Errorf("only %d programs of %d are played", played, seeds)
	}
}

// texts shows a program one text a line.
func texts(l []string) string { return strings.Join(l, "\n") }
