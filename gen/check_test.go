package gen_test

import (
	"fmt"
	"testing"

	"bellwright/api"
)

// f and ok are short for what most of these ask for.
const f, ok = api.ErrForm, api.OK

const far = 1<<63 - 1

// everywhere asks Gen of a statement in top: in its main, its first part, and in blocks of these.
func everywhere(t *testing.T, a api.Act, inMain, inPart api.Errno) {
	t.Helper()
	while := api.Act{Op: api.While, Args: []api.Node{num(0)}, Body: []api.Act{out(num(1)), a}}
	other := api.Act{Op: api.If, Args: []api.Node{num(0)}, Other: []api.Act{a}}
	then := api.Act{Op: api.If, Args: []api.Node{num(0)}, Body: []api.Act{a}}
	for _, x := range []api.Act{a, while, other, then} {
		u := top()
		u.Main = []api.Act{out(num(0)), x}
		wantErr(t, fmt.Sprintf("%+v in main", x), u, inMain)
		u = top()
		u.Parts[0].Body = []api.Act{x}
		wantErr(t, fmt.Sprintf("%+v in a part", x), u, inPart)
	}
}

// nodeEverywhere asks Gen of an expression of a statement, and of one in another expression.
func nodeEverywhere(t *testing.T, n api.Node, inMain, inPart api.Errno) {
	t.Helper()
	for _, x := range []api.Node{n, node(api.Not, n), node(api.Add, num(1), n), node(api.Or, n, num(1)), {Op: api.Elem, N: 1, Args: []api.Node{n}}, {Op: api.Call, M: 1, At: 1, Args: []api.Node{num(1), n}}} {
		everywhere(t, out(x), inMain, inPart)
	}
	everywhere(t, api.Act{Op: api.Put, N: 1, Args: []api.Node{num(0), n}}, inMain, inPart)
}

// G1: names of the unit and of its uses, none of which is its own, or there twice.
func TestNames(t *testing.T) {
	for name, want := range map[string]api.Errno{
		"a": ok, "abcdefgh": ok, "z9": ok, "inn": ok,
		"": f, "abcdefghi": f, "9": f, "A": f, "a b": f, "in": f, "module": f, "local": f, "ä": f, "a\x00": f,
	} {
		wantErr(t, "the name "+name, api.Unit{Name: name}, want)
		wantErr(t, "the use "+name, api.Unit{Name: "user", Uses: []string{name}}, want)
		wantErr(t, "the last use "+name, api.Unit{Name: "user", Uses: []string{"one", "two", name}}, want)
	}
	type s = []string
	for _, c := range []struct {
		uses []string
		want api.Errno
	}{
		{s{}, ok}, {s{"a"}, ok}, {s{"a", "b"}, ok}, {s{"c", "a", "b"}, ok}, {s{"a", "b", "c", "d"}, f}, {repeat("a", 1<<16), f},
		{s{"a", "a"}, f}, {s{"a", "b", "a"}, f}, {s{"b", "a", "a"}, f},
		{s{"m"}, f}, {s{"a", "m"}, f}, {s{"m", "a"}, f}, {s{"a", "b", "m"}, f}, {s{"m", "m"}, f},
	} {
		wantErr(t, fmt.Sprint("uses ", len(c.uses)), api.Unit{Name: "m", Uses: c.uses}, c.want)
	}
}

// G1: data, parts, parameters, locals.
func TestHeads(t *testing.T) {
	for n, want := range map[int]api.Errno{0: ok, 1: ok, api.MaxData: ok, api.MaxData + 1: f, -1: f, far: f, -far - 1: f} {
		wantErr(t, fmt.Sprint("data ", n), api.Unit{Name: "a", Data: n}, want)
	}
	for n, want := range map[int]api.Errno{1: ok, api.MaxProcs: ok, api.MaxProcs + 1: f, 1 << 16: f} {
		wantErr(t, fmt.Sprint(n, " parts"), api.Unit{Name: "a", Parts: make([]api.Part, n)}, want)
	}
	for _, c := range []struct {
		params, locals int
		want           api.Errno
	}{
		{0, 0, ok}, {api.MaxParams, api.MaxLocals, ok}, {api.MaxParams, 0, ok}, {0, api.MaxLocals, ok},
		{api.MaxParams + 1, 0, f}, {0, api.MaxLocals + 1, f}, {-1, 0, f}, {0, -1, f}, {-1, 1, f}, {1, -1, f}, {far, far, f}, {-far - 1, -far - 1, f},
	} {
		u := api.Unit{Name: "a", Parts: []api.Part{{}, {Params: c.params, Locals: c.locals}}}
		wantErr(t, fmt.Sprint(c), u, c.want)
	}
}

// G1: numbers, and what lies in locals and in the unit's own data.
func TestOwnPlaces(t *testing.T) {
	for _, n := range []int{0, api.MaxNumber} {
		nodeEverywhere(t, num(n), ok, ok)
	}
	for _, n := range []int{-1, api.MaxNumber + 1, far, -far - 1} {
		nodeEverywhere(t, num(n), f, f)
	}
	for _, at := range []int{0, 2} { // the part has three, main none
		nodeEverywhere(t, api.Node{Op: api.Local, At: at}, f, ok)
		everywhere(t, api.Act{Op: api.Set, M: -1, At: at, Args: []api.Node{num(1)}}, f, ok)
	}
	for _, at := range []int{-1, 3, far, -far - 1} {
		nodeEverywhere(t, api.Node{Op: api.Local, At: at}, f, f)
		everywhere(t, api.Act{Op: api.Set, M: -1, At: at, Args: []api.Node{num(1)}}, f, f)
	}
	for at, want := range map[int]api.Errno{0: ok, 39: ok, 40: f, api.MaxData: f, -1: f, far: f, -far - 1: f} {
		nodeEverywhere(t, api.Node{Op: api.Var, At: at}, want, want)
		everywhere(t, api.Act{Op: api.Set, At: at, Args: []api.Node{num(1)}}, want, want)
		everywhere(t, api.Act{Op: api.Put, N: 1, At: at, Args: []api.Node{num(1), num(1)}}, want, want)
	}
	for _, c := range []struct {
		n, at int
		want  api.Errno
	}{{32, 8, ok}, {32, 9, f}, {33, 0, f}, {40, 0, f}, {0, 0, f}, {-1, 3, f}, {2, 38, ok}, {2, 39, f}, {2, far - 1, f}, {far, 1, f}, {-far - 1, 0, f}} {
		nodeEverywhere(t, api.Node{Op: api.Elem, N: c.n, At: c.at, Args: []api.Node{num(0)}}, c.want, c.want)
		everywhere(t, api.Act{Op: api.Put, N: c.n, At: c.at, Args: []api.Node{num(0), num(0)}}, c.want, c.want)
	}
}

// G1: M is from 0 to the number of uses (of Set from -1).
func TestMods(t *testing.T) {
	for _, m := range []int{-2, 3, 4, far, -far - 1} {
		nodeEverywhere(t, api.Node{Op: api.Var, M: m}, f, f)
		nodeEverywhere(t, api.Node{Op: api.Elem, N: 1, M: m, Args: []api.Node{num(0)}}, f, f)
		nodeEverywhere(t, api.Node{Op: api.Call, M: m}, f, f)
		everywhere(t, api.Act{Op: api.Set, M: m, Args: []api.Node{num(1)}}, f, f)
		everywhere(t, api.Act{Op: api.Put, N: 1, M: m, Args: []api.Node{num(1), num(1)}}, f, f)
		everywhere(t, api.Act{Op: api.Do, M: m}, f, f)
	}
	nodeEverywhere(t, api.Node{Op: api.Var, M: -1}, f, f)
	nodeEverywhere(t, api.Node{Op: api.Elem, N: 1, M: -1, Args: []api.Node{num(0)}}, f, f)
	nodeEverywhere(t, api.Node{Op: api.Call, M: -1}, f, f)
	everywhere(t, api.Act{Op: api.Put, N: 1, M: -1, Args: []api.Node{num(1), num(1)}}, f, f)
	everywhere(t, api.Act{Op: api.Do, M: -1}, f, f)
	u := api.Unit{Name: "a", Main: []api.Act{out(api.Node{Op: api.Var, M: 1})}}
	wantErr(t, "a use of none", u, f)
	u.Uses = []string{"b"}
	wantErr(t, "the use of one", u, ok)
	u.Uses = []string{"b", "c", "d"}
	u.Main[0].Args[0].M = 3
	wantErr(t, "the last of MaxUses", u, ok)
	u.Main[0].Args[0].M = 4
	wantErr(t, "one behind MaxUses", u, f)
}

// G1: of another unit's numbers At is from 0 to MaxData, and At + N at most MaxData, or N is 1.
func TestOtherNumbers(t *testing.T) {
	for _, m := range []int{1, 2} {
		for at, want := range map[int]api.Errno{0: ok, 39: ok, 40: ok, api.MaxData - 1: ok, api.MaxData: ok, api.MaxData + 1: f, -1: f, far: f, -far - 1: f} {
			nodeEverywhere(t, api.Node{Op: api.Var, M: m, At: at}, want, want)
			everywhere(t, api.Act{Op: api.Set, M: m, At: at, Args: []api.Node{num(1)}}, want, want)
		}
		for _, c := range []struct {
			n, at int
			want  api.Errno
		}{
			{1, 0, ok}, {1, api.MaxData - 1, ok}, {1, api.MaxData, ok}, {1, api.MaxData + 1, f}, {1, -1, f}, {1, far, f}, {1, -far - 1, f},
			{2, 0, ok}, {2, api.MaxData - 2, ok}, {2, api.MaxData - 1, f}, {2, api.MaxData, f}, {2, -1, f}, {2, far, f}, {2, far - 1, f},
			{32, 0, ok}, {32, api.MaxData - 32, ok}, {32, api.MaxData - 31, f}, {32, -1, f}, {32, -32, f}, {32, far - 31, f},
			{33, 0, f}, {0, 0, f}, {-1, 1, f}, {0, api.MaxData, f}, {far, 0, f}, {far, 1, f}, {-far - 1, 0, f}, {-far - 1, -far - 1, f},
		} {
			nodeEverywhere(t, api.Node{Op: api.Elem, N: c.n, M: m, At: c.at, Args: []api.Node{num(0)}}, c.want, c.want)
			everywhere(t, api.Act{Op: api.Put, N: c.n, M: m, At: c.at, Args: []api.Node{num(0), num(0)}}, c.want, c.want)
		}
	}
}

// G1: calls: of the unit itself a part, with as many arguments as its parameters; of another one At is below MaxProcs, with at most MaxParams arguments.
func TestCalls(t *testing.T) {
	for _, c := range []struct {
		m, at, args int
		want        api.Errno
	}{
		{0, 0, 1, ok}, {0, 0, 0, f}, {0, 0, 2, f}, {0, 1, 2, ok}, {0, 1, 3, f}, {0, 2, 0, ok}, {0, 2, 1, f}, {0, 3, 3, ok}, {0, 3, 4, f}, {0, 4, 0, f}, {0, 5, 0, f}, {0, -1, 0, f}, {0, far, 0, f},
		{1, 0, 0, ok}, {1, 0, 1, ok}, {1, 0, api.MaxParams, ok}, {1, 0, api.MaxParams + 1, f}, {1, 0, 1 << 12, f},
		{1, 5, 0, ok}, {1, 5, api.MaxParams, ok}, {1, 5, api.MaxParams + 1, f}, {1, api.MaxProcs, 0, f}, {1, api.MaxProcs, api.MaxParams, f}, {1, -1, 0, f}, {1, far, 0, f}, {1, -far - 1, 0, f},
		{2, 4, 2, ok}, {2, api.MaxProcs, 2, f}, {2, 0, api.MaxParams + 1, f},
	} {
		args := repeat(num(1), c.args)
		nodeEverywhere(t, api.Node{Op: api.Call, M: c.m, At: c.at, Args: args}, c.want, c.want)
		everywhere(t, api.Act{Op: api.Do, M: c.m, At: c.at, Args: args}, c.want, c.want)
	}
	// What another unit has is not known: one part of it may be handed one number here and two there.
	u := top()
	u.Main = []api.Act{{Op: api.Do, M: 1, Args: []api.Node{num(1)}}, {Op: api.Do, M: 1, Args: []api.Node{num(1), num(2)}}, out(api.Node{Op: api.Call, M: 1})}
	wantErr(t, "one part in three ways", u, ok)
}

// G1: there are Ops from Num to Local, and from Set to Out.
func TestOps(t *testing.T) {
	for _, op := range []int{-far - 1, -1, 0, 17, 18, far} {
		for args := range 3 {
			nodeEverywhere(t, api.Node{Op: op, Args: repeat(num(1), args)}, f, f)
		}
	}
	for _, op := range []int{-far - 1, -1, 0, 8, 9, far} {
		for args := range 3 {
			everywhere(t, api.Act{Op: op, Args: repeat(num(1), args)}, f, f)
		}
	}
}

// G1: fields that there are not are 0, and numbers of arguments are as they must be.
func TestNodeFields(t *testing.T) {
	l := []api.Node{num(7), {Op: api.In}, {Op: api.Var, At: 1}, {Op: api.Var, M: 1, At: 1}, {Op: api.Elem, N: 2, At: 1, Args: []api.Node{num(1)}}, {Op: api.Local, At: 1}, node(api.Not, num(1))}
	for op := api.And; op <= api.Less; op++ {
		l = append(l, node(op, num(1), num(2)))
	}
	for _, n := range l {
		main := ok
		if n.Op == api.Local {
			main = f
		}
		nodeEverywhere(t, n, main, ok)
		for _, v := range []int{1, -1} {
			x := n
			if x.N = v; n.Op != api.Num && n.Op != api.Elem {
				nodeEverywhere(t, x, f, f)
			}
			x = n
			if x.M = v; n.Op != api.Var && n.Op != api.Elem {
				nodeEverywhere(t, x, f, f)
			}
			x = n
			if x.At = v; n.Op != api.Var && n.Op != api.Elem && n.Op != api.Local {
				nodeEverywhere(t, x, f, f)
			}
		}
		for args := range 4 {
			if x := n; args != len(n.Args) {
				x.Args = repeat(num(0), args)
				nodeEverywhere(t, x, f, f)
			}
		}
	}
	for _, v := range []int{1, -1} {
		nodeEverywhere(t, api.Node{Op: api.Call, M: 1, N: v}, f, f)
		nodeEverywhere(t, api.Node{Op: api.Call, N: v, At: 2}, f, f)
	}
}

func TestActFields(t *testing.T) {
	one := []api.Node{num(1)}
	block := []api.Act{out(num(1))}
	for _, a := range []api.Act{
		{Op: api.Set, M: -1, At: 1, Args: one}, {Op: api.Set, At: 1, Args: one}, {Op: api.Set, M: 1, At: 1, Args: one},
		{Op: api.Put, N: 2, At: 1, Args: []api.Node{num(1), num(1)}}, {Op: api.Do, At: 1, Args: []api.Node{num(1), num(1)}},
		{Op: api.If, Args: one, Body: block, Other: block}, {Op: api.While, Args: one, Body: block}, {Op: api.Return, Args: one}, {Op: api.Out, Args: one},
	} {
		main := ok
		if a.M == -1 {
			main = f
		}
		everywhere(t, a, main, ok)
		for _, v := range []int{1, -1} {
			x := a
			if x.N = v; a.Op != api.Put {
				everywhere(t, x, f, f)
			}
			x = a
			if x.M = v; a.Op >= api.If {
				everywhere(t, x, f, f)
			}
			x = a
			if x.At = v; a.Op >= api.If {
				everywhere(t, x, f, f)
			}
		}
		for args := range 4 {
			if x := a; args != len(a.Args) {
				x.Args = repeat(num(0), args)
				everywhere(t, x, f, f)
			}
		}
		if x := a; a.Op != api.If && a.Op != api.While {
			x.Body = block
			everywhere(t, x, f, f)
		}
		if x := a; a.Op != api.If {
			x.Other = block
			everywhere(t, x, f, f)
		}
	}
	everywhere(t, api.Act{Op: api.Out, Args: []api.Node{{Op: api.In, Args: []api.Node{}}}, Body: []api.Act{}, Other: []api.Act{}}, ok, ok)
}

// G1: how many statements a block may have, and how deep blocks and expressions may lie.
func TestDepths(t *testing.T) {
	deepNot := func(n int) api.Node {
		x := num(1)
		for range n - 1 {
			x = node(api.Not, x)
		}
		return x
	}
	deepBlock := func(n int, inner ...api.Act) []api.Act {
		for i := range n - 1 {
			a := api.Act{Op: api.While, Args: []api.Node{num(1)}, Body: inner}
			if i%2 == 1 {
				a = api.Act{Op: api.If, Args: []api.Node{num(1)}, Other: inner}
			}
			inner = []api.Act{a}
		}
		return inner
	}
	wantBlock := func(what string, b []api.Act, want api.Errno) {
		u := top()
		u.Main = b
		wantErr(t, what+" in main", u, want)
		u = top()
		u.Parts[3].Body = b
		wantErr(t, what+" in a part", u, want)
	}
	for n, want := range map[int]api.Errno{api.MaxBlock: ok, api.MaxBlock + 1: f, 1 << 16: f} {
		wantBlock("a block", repeat(out(num(1)), n), want)
		wantBlock("an inner block", deepBlock(3, repeat(out(num(1)), n)...), want)
	}
	for n, want := range map[int]api.Errno{api.MaxDeep: ok, api.MaxDeep + 1: f, 1000: f} {
		wantBlock("deep blocks", deepBlock(n, out(num(1))), want)
		wantBlock("deep empty blocks", deepBlock(n), want)
		wantBlock("deep expressions", []api.Act{out(deepNot(n))}, want)
		wantBlock("deep expressions in deep blocks", deepBlock(api.MaxDeep, out(deepNot(n))), want)
		wantBlock("a deep argument", []api.Act{{Op: api.Do, M: 1, Args: []api.Node{num(1), deepNot(n)}}}, want)
	}
}
