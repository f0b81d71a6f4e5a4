package gen_test

import (
	"fmt"
	"slices"
	"testing"

	"bellwright/api"
	"bellwright/gen"
	"bellwright/scope"
	"bellwright/tree"
)

// wantCode holds the code of a statement, which stands in a part of top, from place 1 on, against what it must be.
func wantCode(t *testing.T, a api.Act, want string) {
	t.Helper()
	u := top()
	u.Parts = u.Parts[:1]
	u.Parts[0].Body = []api.Act{a}
	// The part itself is 0, of one parameter; so calls of others are of lib and far.
	o, e := gen.Gen(u)
	if e != api.OK {
		t.Errorf("Gen of %+v: %d", a, e)
		return
	}
	if want != "" {
		want += ", "
	}
	want = "enter 1 2, " + want + "push, ret, enter, push, ret"
	if s := tell(t, o); s != want {
		t.Errorf("Gen of %+v:\n%s, must be\n%s", a, s, want)
	}
}

// G1: the code of each kind of expression.
func TestNodes(t *testing.T) {
	one, two := num(1), num(2)
	for _, c := range []struct {
		n    api.Node
		want string
	}{
		{num(0), "push"},
		{num(api.MaxNumber), "push 1099511627775"},
		{node(api.In), "in"},
		{api.Node{Op: api.Local}, "get"},
		{api.Node{Op: api.Local, At: 2}, "get 2"},
		{api.Node{Op: api.Var}, "load data0"},
		{api.Node{Op: api.Var, At: 39}, "load 39 data0"},
		{api.Node{Op: api.Var, M: 1, At: 7}, "load 7 data1"},
		{api.Node{Op: api.Var, M: 2, At: 8}, "load 8 data2"},
		{api.Node{Op: api.Elem, N: 1, Args: []api.Node{two}}, "push 2, index 0 1 data0, fetch"},
		{api.Node{Op: api.Elem, N: 32, At: 8, Args: []api.Node{two}}, "push 2, index 8 32 data0, fetch"},
		{api.Node{Op: api.Elem, N: 4, M: 2, At: 3, Args: []api.Node{{Op: api.Local, At: 1}}}, "get 1, index 3 4 data2, fetch"},
		{api.Node{Op: api.Call, Args: []api.Node{two}}, "push 2, call proc0"},
		{api.Node{Op: api.Call, M: 1, At: 5}, "call 5 proc1"},
		{api.Node{Op: api.Call, M: 2, At: 3, Args: []api.Node{one, two, num(3)}}, "push 1, push 2, push 3, call 3 proc2"},
		{node(api.Not, two), "push 2, not"},
		{node(api.And, one, two), "push 1, zero 6 code0, push 2, truth, jump 7 code0, push"},
		{node(api.Or, one, two), "push 1, zero 5 code0, push 1, jump 7 code0, push 2, truth"},
		{node(api.Add, one, two), "push 1, push 2, math 9"},
		{node(api.Sub, one, two), "push 1, push 2, math 10"},
		{node(api.Mul, one, two), "push 1, push 2, math 11"},
		{node(api.Div, one, two), "push 1, push 2, math 12"},
		{node(api.Rem, one, two), "push 1, push 2, math 13"},
		{node(api.Eq, one, two), "push 1, push 2, math 14"},
		{node(api.Less, one, two), "push 1, push 2, math 15"},
		{node(api.Not, node(api.Sub, node(api.Mul, one, two), node(api.In))), "push 1, push 2, math 11, in, math 10, not"},
		{node(api.And, node(api.Or, one, two), node(api.Not, one)), "push 1, zero 5 code0, push 1, jump 7 code0, push 2, truth, zero 12 code0, push 1, not, truth, jump 13 code0, push"},
		{node(api.Or, node(api.And, one, two), node(api.Not, one)), "push 1, zero 6 code0, push 2, truth, jump 7 code0, push, zero 10 code0, push 1, jump 13 code0, push 1, not, truth"},
		{api.Node{Op: api.Call, M: 1, Args: []api.Node{node(api.And, one, two), {Op: api.Elem, N: 2, M: 1, Args: []api.Node{{Op: api.Call, M: 2, At: 1}}}}}, "push 1, zero 6 code0, push 2, truth, jump 7 code0, push, call 1 proc2, index 0 2 data1, fetch, call proc1"},
	} {
		wantCode(t, out(c.n), c.want+", out")
		wantCode(t, api.Act{Op: api.Return, Args: []api.Node{c.n}}, c.want+", ret")
		wantCode(t, api.Act{Op: api.Set, At: 9, Args: []api.Node{c.n}}, c.want+", save 9 data0")
	}
}

// G1: the code of each kind of statement.
func TestActs(t *testing.T) {
	one, two := []api.Node{num(1)}, []api.Node{num(1), num(2)}
	type block = []api.Act
	tell3, tell4 := out(num(3)), out(num(4))
	for _, c := range []struct {
		a    api.Act
		want string
	}{
		{api.Act{Op: api.Set, M: -1, Args: one}, "push 1, set"},
		{api.Act{Op: api.Set, M: -1, At: 2, Args: one}, "push 1, set 2"},
		{api.Act{Op: api.Set, Args: one}, "push 1, save data0"},
		{api.Act{Op: api.Set, M: 2, At: 11, Args: one}, "push 1, save 11 data2"},
		{api.Act{Op: api.Put, N: 3, At: 5, Args: two}, "push 1, index 5 3 data0, push 2, store"},
		{api.Act{Op: api.Put, N: 32, M: 1, At: 6, Args: two}, "push 1, index 6 32 data1, push 2, store"},
		{api.Act{Op: api.Do, Args: one}, "push 1, call proc0, drop"},
		{api.Act{Op: api.Do, M: 1, At: 4}, "call 4 proc1, drop"},
		{api.Act{Op: api.Do, M: 2, At: 1, Args: two}, "push 1, push 2, call 1 proc2, drop"},
		{api.Act{Op: api.If, Args: one}, "push 1, zero 3 code0"},
		{api.Act{Op: api.If, Args: one, Other: block{}}, "push 1, zero 3 code0"},
		{api.Act{Op: api.If, Args: one, Body: block{tell3}}, "push 1, zero 5 code0, push 3, out"},
		{api.Act{Op: api.If, Args: one, Body: block{tell3}, Other: block{tell4}}, "push 1, zero 6 code0, push 3, out, jump 8 code0, push 4, out"},
		{api.Act{Op: api.If, Args: one, Other: block{tell4}}, "push 1, zero 4 code0, jump 6 code0, push 4, out"},
		{api.Act{Op: api.While, Args: one}, "push 1, zero 5 code0, tick, jump 1 code0"},
		{api.Act{Op: api.While, Args: one, Body: block{tell3, tell4}}, "push 1, zero 9 code0, tick, push 3, out, push 4, out, jump 1 code0"},
		{api.Act{Op: api.Return, Args: one}, "push 1, ret"},
		{api.Act{Op: api.Out, Args: one}, "push 1, out"},
		{api.Act{Op: api.While, Args: one, Body: block{tell3, {Op: api.While, Args: one, Body: block{tell4}}}}, "push 1, zero 13 code0, tick, push 3, out, push 1, zero 12 code0, tick, push 4, out, jump 6 code0, jump 1 code0"},
		{api.Act{Op: api.If, Args: one, Body: block{{Op: api.If, Args: one, Body: block{tell3}}}, Other: block{{Op: api.If, Args: one, Other: block{tell4}}}}, "push 1, zero 8 code0, push 1, zero 7 code0, push 3, out, jump 13 code0, push 1, zero 11 code0, jump 13 code0, push 4, out"},
	} {
		wantCode(t, c.a, c.want)
	}
}

// G1: parts stand one behind the other, then main, with what each of them has; places go on from part to part.
func TestParts(t *testing.T) {
	u := top()
	u.Data = api.MaxData
	o, e := gen.Gen(u)
	want := "enter 1 2, push, ret, enter 2, push, ret, enter, push, ret, enter 3 4, push, ret, enter, push, ret"
	if s := tell(t, o); e != api.OK || s != want || !slices.Equal(o.Entries, []int{0, 3, 6, 9}) || o.Main != 12 || o.Name != "top" || !slices.Equal(o.Uses, []string{"lib", "far"}) || o.Data != api.MaxData {
		t.Errorf("%+v %d: %s", o, e, s)
	}
	u.Parts[0].Body = []api.Act{out(num(1)), {Op: api.Return, Args: []api.Node{num(2)}}}
	u.Parts[1].Body = []api.Act{{Op: api.While, Args: []api.Node{{Op: api.Local, At: 1}}}}
	u.Parts[3].Body = []api.Act{{Op: api.Do, At: 1, Args: []api.Node{{Op: api.Local, At: 6}, node(api.And, num(1), num(2))}}}
	u.Main = []api.Act{{Op: api.If, Args: []api.Node{num(1)}}, {Op: api.Return, Args: []api.Node{num(5)}}, out(api.Node{Op: api.Call, At: 2})}
	o, e = gen.Gen(u)
	want = "enter 1 2, push 1, out, push 2, ret, push, ret, " +
		"enter 2, get 1, zero 12 code0, tick, jump 8 code0, push, ret, " +
		"enter, push, ret, " +
		"enter 3 4, get 6, push 1, zero 24 code0, push 2, truth, jump 25 code0, push, call 1 proc0, drop, push, ret, " +
		"enter, push 1, zero 32 code0, push 5, ret, call 2 proc0, out, push, ret"
	if s := tell(t, o); e != api.OK || s != want || !slices.Equal(o.Entries, []int{0, 7, 14, 17}) || o.Main != 29 {
		t.Errorf("%+v %d:\n%s, must be\n%s", o, e, s, want)
	}
	o, e = gen.Gen(api.Unit{Name: "a"})
	if s := tell(t, o); e != api.OK || s != "enter, push, ret" || len(o.Entries) != 0 || o.Main != 0 {
		t.Errorf("%+v %d", o, e)
	}
}

// G1: the module of the document's example: 22 instructions, five of them fixed.
func TestExample(t *testing.T) {
	m, e := tree.Parse("module cnt{pub const k=3;pub var sum;pub array t[4];pub proc down(n)local i;{i=n;while i{sum=(sum+i);i=(i-1);}return sum;}main{}}")
	u, f := scope.Resolve(m, nil)
	o, g := gen.Gen(u)
	want := "enter 1 1, get, set 1, get 1, zero 15 code0, tick, load data0, get 1, math 9, save data0, get 1, push 1, math 10, set 1, jump 3 code0, load data0, ret, push, ret, enter, push, ret"
	if s := tell(t, o); e != api.OK || f != api.OK || g != api.OK || s != want || len(o.Code) != 22 || len(o.Fixes) != 5 || !slices.Equal(o.Entries, []int{0}) || o.Main != 19 || o.Name != "cnt" || len(o.Uses) != 0 || o.Data != 5 {
		t.Errorf("%d %d %d: %+v", e, f, g, o)
	}
}

// sums tells an expression of 2n - 1 instructions, for n of 1, 2, 4, .. 32.
func sums(n int) api.Node {
	if n == 1 {
		return num(1)
	}
	return node(api.Add, sums(n/2), sums(n/2))
}

// sized tells a unit of exactly so many instructions, around MaxCode: four parts, then main, each with statements.
func sized(n int) api.Unit {
	var l []api.Act
	for n -= 5 * 3; n > 0; {
		x, size := sums(32), 63
		switch {
		case n < 70 && n%2 == 1:
			x, size = node(api.Not, num(1)), 2
		case n < 70:
			x, size = num(1), 1
		}
		l = append(l, out(x))
		n -= size + 1
		if n < 70 && n > 20 {
			l = append(l, out(sums(4)))
			n -= 8
		}
	}
	u := api.Unit{Name: "a"}
	for c := range slices.Chunk(l, api.MaxBlock) {
		u.Parts = append(u.Parts, api.Part{Body: c})
	}
	last := len(u.Parts) - 1
	u.Main, u.Parts = u.Parts[last].Body, u.Parts[:last]
	return u
}

// G1: MaxCode instructions may be, one more is ErrMany, behind ErrForm.
func TestMaxCode(t *testing.T) {
	for n := api.MaxCode - 20; n < api.MaxCode+20; n++ {
		want := api.OK
		if n > api.MaxCode {
			want = api.ErrMany
		}
		u := sized(n)
		wantErr(t, fmt.Sprint(n, " instructions"), u, want)
		if o := scripted(u); len(o.Code) != n {
			t.Fatalf("%d instructions are %d", n, len(o.Code))
		}
		if o, e := gen.Gen(u); e == api.OK && !same(o, scripted(u)) {
			t.Errorf("%d instructions are %+v", n, o)
		}
	}
	// The same of a part alone, and of main alone, whatever stands there last.
	full := repeat(api.Act{Op: api.While, Args: []api.Node{num(1)}, Body: repeat(out(sums(8)), api.MaxBlock)}, api.MaxBlock)
	u := api.Unit{Name: "a", Parts: []api.Part{{Body: full}}} // 1,646 and 3
	wantErr(t, "a full part", u, api.OK)
	u.Main = full
	wantErr(t, "a full part and a full main", u, api.ErrMany)
	u.Parts = nil
	wantErr(t, "a full main", u, api.OK)
	deep := full
	for range api.MaxDeep - 3 {
		deep = []api.Act{{Op: api.If, Args: []api.Node{num(1)}, Body: deep, Other: deep}}
	}
	u.Main = deep
	wantErr(t, "far too much", u, api.ErrMany)
	u.Main = append(slices.Clone(deep), api.Act{})
	wantErr(t, "far too much, with a wrong statement last", u, api.ErrForm)
	u.Main = append(slices.Clone(deep), out(num(-1)))
	wantErr(t, "far too much, with a wrong number last", u, api.ErrForm)
	u.Main, u.Data = deep, -1
	wantErr(t, "far too much, with wrong data", u, api.ErrForm)
	u.Main, u.Data, u.Uses = deep, 0, []string{"a"}
	wantErr(t, "far too much, with a wrong use", u, api.ErrForm)
}

// G1, P1: a unit may have far more statements than there may be instructions.
func TestFarTooMuch(t *testing.T) {
	block := repeat(out(node(api.Call, repeat(sums(4), api.MaxParams)...)), api.MaxBlock)
	for range api.MaxDeep - 2 {
		block = repeat(api.Act{Op: api.While, Args: []api.Node{num(1)}, Body: block}, api.MaxBlock)
	}
	u := api.Unit{Name: "a", Parts: []api.Part{{Params: api.MaxParams}}, Main: block}
	wantErr(t, "far too much", u, api.ErrMany)
}
