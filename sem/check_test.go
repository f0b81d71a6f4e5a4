package sem

import (
	"fmt"
	"testing"

	"bellwright/api"
)

// two tells a right program: top uses lib.
func two() []api.Unit {
	return []api.Unit{
		{Name: "lib", Data: 40, Parts: []api.Part{{}, {Params: 2, Locals: 1}, {Params: api.MaxParams, Locals: api.MaxLocals}}},
		{Name: "top", Uses: []string{"lib"}, Data: 5, Parts: []api.Part{{Params: 1, Locals: 2}, {Params: 2}}},
	}
}

// named tells units of these names, each with no uses.
func named(names ...string) []api.Unit {
	var l []api.Unit
	for _, n := range names {
		l = append(l, api.Unit{Name: n})
	}
	return l
}

// D1: how many units there are.
func TestUnits(t *testing.T) {
	wantCheck(t, "none", nil, api.ErrMany)
	wantCheck(t, "an empty list", []api.Unit{}, api.ErrMany)
	wantCheck(t, "one", named("a"), api.OK)
	wantCheck(t, "MaxMods", named("a", "b", "c", "d"), api.OK)
	wantCheck(t, "one more", named("a", "b", "c", "d", "e"), api.ErrMany)
	wantCheck(t, "far more", make([]api.Unit, 1<<16), api.ErrMany)
	wantCheck(t, "two that use", two(), api.OK)
}

// uses tells units whose uses are told behind their names.
func uses(l ...[]string) []api.Unit {
	var all []api.Unit
	for _, x := range l {
		all = append(all, api.Unit{Name: x[0], Uses: x[1:]})
	}
	return all
}

// D1: each unit stands behind all that it uses.
func TestOrder(t *testing.T) {
	type s = []string
	for _, c := range []struct {
		l    []api.Unit
		want api.Errno
	}{
		{uses(s{"a"}, s{"b", "a"}, s{"c", "b", "a"}, s{"d", "a", "c", "b"}), api.OK},
		{uses(s{"a"}, s{"b", "a"}, s{"c", "a"}, s{"d"}), api.OK},
		{uses(s{"a", "b"}, s{"b"}), api.ErrRound},
		{uses(s{"a"}, s{"b", "b"}), api.ErrRound},
		{uses(s{"a", "a"}), api.ErrRound},
		{uses(s{"a"}, s{"b", "a", "c"}), api.ErrRound},
		{uses(s{"a"}, s{"b", "a", "c"}, s{"c"}), api.ErrRound},
		{uses(s{"a"}, s{"b", ""}), api.ErrRound},
		{uses(s{"a"}, s{"a", "a"}), api.ErrThere},
		{uses(s{"a"}, s{"b"}, s{"c"}, s{"a"}), api.ErrThere},
		{uses(s{"a"}, s{"b", "a"}, s{"b", "a"}), api.ErrThere},
		{uses(s{"a"}, s{"b", "a", "a"}), api.ErrForm},
		{uses(s{"a"}, s{"b"}, s{"c", "a", "b", "a"}), api.ErrForm},
	} {
		wantCheck(t, fmt.Sprint(c.l), c.l, c.want)
	}
}

// D1: of several errors the one that is named first, whichever unit has it.
func TestCheckOrder(t *testing.T) {
	type s = []string
	for _, c := range []struct {
		what string
		l    []api.Unit
		want api.Errno
	}{
		{"many ahead of round, there, form", uses(s{"a", "x"}, s{"a"}, s{"a"}, s{"A"}, s{""}), api.ErrMany},
		{"round ahead of there and form", uses(s{"A"}, s{"A"}, s{"a", "b"}), api.ErrRound},
		{"there ahead of form", uses(s{"A"}, s{"a"}, s{"a"}), api.ErrThere},
		{"form", uses(s{"a"}, s{"A"}, s{"b", "a"}), api.ErrForm},
		{"round of far too many uses", []api.Unit{{Name: "a"}, {Name: "b", Uses: append(repeat("a", 1<<16), "b")}}, api.ErrRound},
		{"form of far too many uses", []api.Unit{{Name: "a"}, {Name: "b", Uses: repeat("a", 1<<16)}}, api.ErrForm},
	} {
		wantCheck(t, c.what, c.l, c.want)
	}
	l := two()
	l[0].Data = -1
	l[1].Uses[0] = "x"
	wantCheck(t, "round ahead of data", l, api.ErrRound)
	l = two()
	l[1].Main = []api.Act{{}}
	l[1].Name = "lib"
	wantCheck(t, "there ahead of statements", l, api.ErrThere)
}

// D1: names are those of chapter 2.
func TestUnitNames(t *testing.T) {
	for name, want := range map[string]api.Errno{
		"a": api.OK, "abcdefgh": api.OK, "z9": api.OK, "inn": api.OK,
		"": api.ErrForm, "abcdefghi": api.ErrForm, "9": api.ErrForm, "A": api.ErrForm, "a b": api.ErrForm, "in": api.ErrForm, "module": api.ErrForm, "local": api.ErrForm, "ä": api.ErrForm,
	} {
		wantCheck(t, "the name "+name, named(name), want)
		wantCheck(t, "the use "+name, []api.Unit{{Name: name}, {Name: "user", Uses: []string{name}}}, want)
		wantCheck(t, "the last name "+name, named("one", "two", name), want)
	}
}

// D1: Data of one, and of all together.
func TestCheckData(t *testing.T) {
	for _, c := range []struct {
		data []int
		want api.Errno
	}{
		{[]int{0}, api.OK}, {[]int{api.MaxData}, api.OK}, {[]int{-1}, api.ErrForm}, {[]int{api.MaxData + 1}, api.ErrForm},
		{[]int{api.MaxData, 0, 0}, api.OK}, {[]int{0, api.MaxData}, api.OK}, {[]int{1, api.MaxData}, api.ErrForm}, {[]int{api.MaxData, 0, 1}, api.ErrForm},
		{[]int{128, 128, 128, 128}, api.OK}, {[]int{128, 128, 128, 129}, api.ErrForm}, {[]int{129, 128, 128, 128}, api.ErrForm},
		{[]int{api.MaxData, -1}, api.ErrForm}, {[]int{api.MaxData + 1, -1}, api.ErrForm}, {[]int{-1, api.MaxData}, api.ErrForm},
		{[]int{1<<63 - 1, 1}, api.ErrForm}, {[]int{1<<63 - 1, 1<<63 - 1, 2}, api.ErrForm}, {[]int{-1 << 63, -1 << 63}, api.ErrForm},
	} {
		l := named("a", "b", "c", "d")[:len(c.data)]
		for i, n := range c.data {
			l[i].Data = n
		}
		wantCheck(t, fmt.Sprint("data ", c.data), l, c.want)
	}
}

// D1: how many parts, parameters and locals there may be.
func TestCheckParts(t *testing.T) {
	for n, want := range map[int]api.Errno{0: api.OK, api.MaxProcs: api.OK, api.MaxProcs + 1: api.ErrForm, 1 << 16: api.ErrForm} {
		l := named("a")
		l[0].Parts = make([]api.Part, n)
		wantCheck(t, fmt.Sprint(n, " parts"), l, want)
	}
	for _, c := range []struct {
		params, locals int
		want           api.Errno
	}{
		{0, 0, api.OK}, {api.MaxParams, api.MaxLocals, api.OK},
		{api.MaxParams + 1, 0, api.ErrForm}, {0, api.MaxLocals + 1, api.ErrForm}, {-1, 0, api.ErrForm}, {0, -1, api.ErrForm}, {-1, 1, api.ErrForm}, {1, -1, api.ErrForm},
		{1<<63 - 1, 1<<63 - 1, api.ErrForm}, {-1 << 63, -1 << 63, api.ErrForm},
	} {
		l := named("a", "b")
		l[1].Parts = []api.Part{{}, {Params: c.params, Locals: c.locals}}
		wantCheck(t, fmt.Sprint(c), l, c.want)
	}
	l := named("a")
	l[0].Uses = []string{}
	l = append(l, uses([]string{"b"}, []string{"c"}, []string{"d", "c", "b", "a"})...)
	wantCheck(t, "MaxUses uses", l, api.OK)
}

// everywhere asks Check of a statement in top: in its main, its first part, and in blocks of these.
func everywhere(t *testing.T, a api.Act, inMain, inPart api.Errno) {
	t.Helper()
	while := api.Act{Op: api.While, Args: []api.Node{num(0)}, Body: []api.Act{out(num(1)), a}}
	other := api.Act{Op: api.If, Args: []api.Node{num(0)}, Other: []api.Act{a}}
	then := api.Act{Op: api.If, Args: []api.Node{num(0)}, Body: []api.Act{a}}
	for _, x := range []api.Act{a, while, other, then} {
		l := two()
		l[1].Main = []api.Act{out(num(0)), x}
		wantCheck(t, fmt.Sprintf("%+v in main", x), l, inMain)
		l = two()
		l[1].Parts[0].Body = []api.Act{x}
		wantCheck(t, fmt.Sprintf("%+v in a part", x), l, inPart)
	}
}

// nodeEverywhere asks Check of an expression of a statement, and of one in another expression.
func nodeEverywhere(t *testing.T, n api.Node, inMain, inPart api.Errno) {
	t.Helper()
	for _, x := range []api.Node{n, node(api.Not, n), node(api.Add, num(1), n), node(api.Or, n, num(1)), {Op: api.Elem, N: 1, Args: []api.Node{n}}, {Op: api.Call, M: 1, At: 1, Args: []api.Node{num(1), n}}} {
		everywhere(t, out(x), inMain, inPart)
	}
	everywhere(t, api.Act{Op: api.Put, N: 1, Args: []api.Node{num(0), n}}, inMain, inPart)
}

// f and ok are short for what most of these ask for.
const f, ok = api.ErrForm, api.OK

// D1: numbers, and what lies in locals and data.
func TestCheckPlaces(t *testing.T) {
	far := 1<<63 - 1
	for _, n := range []int{0, api.MaxNumber} {
		nodeEverywhere(t, num(n), ok, ok)
	}
	for _, n := range []int{-1, api.MaxNumber + 1, far, -far - 1} {
		nodeEverywhere(t, num(n), f, f)
	}
	for _, at := range []int{0, 2} { // the part has three, main none
		nodeEverywhere(t, api.Node{Op: api.Local, At: at}, f, ok)
		everywhere(t, api.Act{Op: api.Set, M: -1, At: at, Args: []api.Node{num(1)}}, f, ok)
	}
	for _, at := range []int{-1, 3, far, -far - 1} {
		nodeEverywhere(t, api.Node{Op: api.Local, At: at}, f, f)
		everywhere(t, api.Act{Op: api.Set, M: -1, At: at, Args: []api.Node{num(1)}}, f, f)
	}
	for _, c := range []struct {
		m, at int
		want  api.Errno
	}{
		{0, 0, ok}, {0, 4, ok}, {0, 5, f}, {0, -1, f}, {0, far, f}, {0, -far - 1, f},
		{1, 0, ok}, {1, 39, ok}, {1, 40, f}, {1, -1, f},
		{2, 0, f}, {-2, 0, f}, {far, 0, f}, {-far - 1, 0, f},
	} {
		nodeEverywhere(t, api.Node{Op: api.Var, M: c.m, At: c.at}, c.want, c.want)
		everywhere(t, api.Act{Op: api.Set, M: c.m, At: c.at, Args: []api.Node{num(1)}}, c.want, c.want)
	}
	nodeEverywhere(t, api.Node{Op: api.Var, M: -1}, f, f)
}

// D1: elements: N from 1 to MaxArray, and At + N at most Data.
func TestCheckElements(t *testing.T) {
	far := 1<<63 - 1
	for _, c := range []struct {
		n, m, at int
		want     api.Errno
	}{
		{1, 0, 0, ok}, {1, 0, 4, ok}, {5, 0, 0, ok}, {2, 0, 3, ok}, {6, 0, 0, f}, {2, 0, 4, f}, {1, 0, 5, f}, {0, 0, 0, f}, {-1, 0, 3, f}, {1, 0, -1, f},
		{api.MaxArray, 1, 0, ok}, {api.MaxArray, 1, 8, ok}, {api.MaxArray, 1, 9, f}, {api.MaxArray + 1, 1, 0, f},
		{1, 2, 0, f}, {1, -1, 0, f}, {far, 0, 0, f}, {-far - 1, 0, 0, f}, {1, 0, far, f}, {2, 0, far - 1, f}, {1, 0, -far - 1, f}, {32, 1, -far - 1, f}, {1, far, 0, f},
	} {
		everywhere(t, out(api.Node{Op: api.Elem, N: c.n, M: c.m, At: c.at, Args: []api.Node{num(0)}}), c.want, c.want)
		everywhere(t, api.Act{Op: api.Put, N: c.n, M: c.m, At: c.at, Args: []api.Node{num(0), num(0)}}, c.want, c.want)
	}
}

// D1: calls: a part of that unit, with as many arguments as its parameters.
func TestCheckCalls(t *testing.T) {
	far := 1<<63 - 1
	for _, c := range []struct {
		m, at, args int
		want        api.Errno
	}{
		{0, 0, 1, ok}, {0, 0, 0, f}, {0, 0, 2, f}, {0, 1, 2, ok}, {0, 1, 3, f}, {0, 2, 0, f}, {0, -1, 0, f}, {0, far, 0, f},
		{1, 0, 0, ok}, {1, 0, 1, f}, {1, 1, 2, ok}, {1, 1, 3, f}, {1, 2, 3, ok}, {1, 2, 2, f}, {1, 2, 4, f}, {1, 3, 0, f}, {1, 3, 3, f}, {1, -1, 0, f},
		{2, 0, 0, f}, {-1, 0, 0, f}, {far, 0, 0, f}, {-far - 1, 0, 0, f}, {1, 0, 1 << 12, f},
	} {
		args := repeat(num(1), c.args)
		everywhere(t, out(api.Node{Op: api.Call, M: c.m, At: c.at, Args: args}), c.want, c.want)
		everywhere(t, api.Act{Op: api.Do, M: c.m, At: c.at, Args: args}, c.want, c.want)
	}
}

// D1: there are Ops from Num to Local, and from Set to Out.
func TestCheckOps(t *testing.T) {
	for _, op := range []int{-1 << 63, -1, 0, 17, 18, 1<<63 - 1} {
		for args := range 3 {
			nodeEverywhere(t, api.Node{Op: op, Args: repeat(num(1), args)}, f, f)
		}
	}
	for _, op := range []int{-1 << 63, -1, 0, 8, 9, 1<<63 - 1} {
		for args := range 3 {
			everywhere(t, api.Act{Op: op, Args: repeat(num(1), args)}, f, f)
		}
	}
}

// rightNodes tells a right expression of each Op, for a part of top.
func rightNodes() []api.Node {
	l := []api.Node{num(7), {Op: api.In}, {Op: api.Var, At: 1}, {Op: api.Elem, N: 2, At: 1, Args: []api.Node{num(1)}}, {Op: api.Call, M: 1, At: 1, Args: []api.Node{num(1), num(2)}}, {Op: api.Local, At: 1}, node(api.Not, num(1))}
	for op := api.And; op <= api.Less; op++ {
		l = append(l, node(op, num(1), num(2)))
	}
	return l
}

// rightActs tells a right statement of each Op, for a part of top.
func rightActs() []api.Act {
	one := []api.Node{num(1)}
	block := []api.Act{out(num(1))}
	return []api.Act{
		{Op: api.Set, M: -1, At: 1, Args: one},
		{Op: api.Set, At: 1, Args: one},
		{Op: api.Put, N: 2, At: 1, Args: []api.Node{num(1), num(1)}},
		{Op: api.Do, M: 1, At: 1, Args: []api.Node{num(1), num(1)}},
		{Op: api.If, Args: one, Body: block, Other: block},
		{Op: api.While, Args: one, Body: block},
		{Op: api.Return, Args: one},
		{Op: api.Out, Args: one},
	}
}

// D1: fields that there are not are 0, and numbers of arguments are as they must be.
func TestCheckFields(t *testing.T) {
	for _, n := range rightNodes() {
		main := ok
		if n.Op == api.Local {
			main = f
		}
		nodeEverywhere(t, n, main, ok)
		has := map[int]string{api.Num: "N", api.Var: "MA", api.Elem: "NMA", api.Call: "MA", api.Local: "A"}[n.Op]
		for _, v := range []int{1, -1} {
			x := n
			if x.N = v; has == "" || has == "MA" || has == "A" {
				nodeEverywhere(t, x, f, f)
			}
			x = n
			if x.M = v; has == "" || has == "N" || has == "A" {
				nodeEverywhere(t, x, f, f)
			}
			x = n
			if x.At = v; has == "" || has == "N" {
				nodeEverywhere(t, x, f, f)
			}
		}
		for args := range 5 {
			if x := n; args != len(n.Args) {
				x.Args = repeat(num(0), args)
				nodeEverywhere(t, x, f, f)
			}
		}
	}
}

func TestCheckActFields(t *testing.T) {
	for i, a := range rightActs() {
		main := ok
		if a.M == -1 {
			main = f
		}
		everywhere(t, a, main, ok)
		has := map[int]string{api.Set: "MA", api.Put: "NMA", api.Do: "MA"}[a.Op]
		for _, v := range []int{1, -1} {
			x := a
			if x.N = v; has != "NMA" {
				everywhere(t, x, f, f)
			}
			x = a
			if x.M = v; has == "" {
				everywhere(t, x, f, f)
			}
			x = a
			if x.At = v; has == "" {
				everywhere(t, x, f, f)
			}
		}
		for args := range 5 {
			if x := a; args != len(a.Args) {
				x.Args = repeat(num(0), args)
				everywhere(t, x, f, f)
			}
		}
		if x := rightActs()[i]; a.Op != api.If && a.Op != api.While {
			x.Body = []api.Act{out(num(1))}
			everywhere(t, x, f, f)
		}
		if x := rightActs()[i]; a.Op != api.If {
			x.Other = []api.Act{out(num(1))}
			everywhere(t, x, f, f)
		}
	}
	// An If or a While may have empty blocks, and others lists that are empty but not nil.
	everywhere(t, api.Act{Op: api.If, Args: []api.Node{num(1)}}, ok, ok)
	everywhere(t, api.Act{Op: api.While, Args: []api.Node{num(1)}, Body: []api.Act{}, Other: []api.Act{}}, ok, ok)
	everywhere(t, api.Act{Op: api.Out, Args: []api.Node{{Op: api.In, Args: []api.Node{}}}, Body: []api.Act{}, Other: []api.Act{}}, ok, ok)
}

// D1: how many statements a block may have, and how deep blocks and expressions may lie.
func TestCheckDepths(t *testing.T) {
	for n, want := range map[int]api.Errno{api.MaxBlock: ok, api.MaxBlock + 1: f, 1 << 16: f} {
		block := repeat(out(num(1)), n)
		for _, b := range [][]api.Act{block, whiles(2, block...), ifs(2, block...), whiles(api.MaxDeep, block...)} {
			blockEverywhere(t, b, want)
		}
	}
	for n, want := range map[int]api.Errno{api.MaxDeep: ok, api.MaxDeep + 1: f, api.MaxDeep + 2: f, 1000: f} {
		for _, b := range [][]api.Act{whiles(n, out(num(1))), ifs(n, out(num(1))), whiles(n), ifs(n), {out(nots(n))}, whiles(api.MaxDeep, out(nots(n)))} {
			blockEverywhere(t, b, want)
		}
	}
	for n, want := range map[int]api.Errno{api.MaxDeep - 1: ok, api.MaxDeep: f} {
		for _, x := range []api.Node{node(api.Add, num(1), nots(n)), {Op: api.Elem, N: 1, Args: []api.Node{nots(n)}}, {Op: api.Call, M: 1, At: 1, Args: []api.Node{num(0), nots(n)}}} {
			blockEverywhere(t, []api.Act{out(x)}, want)
		}
	}
	for n, want := range map[int]api.Errno{api.MaxDeep: ok, api.MaxDeep + 1: f} {
		blockEverywhere(t, []api.Act{{Op: api.Put, N: 1, Args: []api.Node{num(0), nots(n)}}}, want)
		blockEverywhere(t, []api.Act{{Op: api.Do, M: 1, At: 2, Args: []api.Node{num(0), num(0), nots(n)}}}, want)
	}
}

func blockEverywhere(t *testing.T, b []api.Act, want api.Errno) {
	t.Helper()
	l := two()
	l[1].Main = b
	wantCheck(t, "a block in main", l, want)
	l = two()
	l[1].Parts[1].Body = b
	wantCheck(t, "a block in a part", l, want)
}

// D1: M means the unit's own uses, in their order; a unit ahead that is no use of it is not meant.
func TestCheckMeant(t *testing.T) {
	l := uses([]string{"a"}, []string{"b"}, []string{"c", "b", "a"}, []string{"d", "b"})
	l[0].Data, l[1].Data = 3, 7
	l[1].Parts = []api.Part{{Params: 1}}
	for _, c := range []struct {
		unit int
		n    api.Node
		want api.Errno
	}{
		{2, api.Node{Op: api.Var, M: 1, At: 6}, ok}, {2, api.Node{Op: api.Var, M: 2, At: 6}, f}, {2, api.Node{Op: api.Var, M: 2, At: 2}, ok}, {2, api.Node{Op: api.Var}, f},
		{3, api.Node{Op: api.Var, M: 1, At: 6}, ok}, {3, api.Node{Op: api.Var, M: 2}, f},
		{2, api.Node{Op: api.Call, M: 1, Args: []api.Node{num(1)}}, ok}, {2, api.Node{Op: api.Call, M: 2, Args: []api.Node{num(1)}}, f}, {3, api.Node{Op: api.Call, Args: []api.Node{num(1)}}, f},
		{1, api.Node{Op: api.Call, Args: []api.Node{num(1)}}, ok}, {0, api.Node{Op: api.Var, At: 2}, ok}, {0, api.Node{Op: api.Var, At: 3}, f},
	} {
		l[c.unit].Main = []api.Act{out(c.n)}
		wantCheck(t, fmt.Sprintf("%+v", c), l, c.want)
		l[c.unit].Main = nil
	}
	// A part may call one that stands behind it, and locals are those of its own part.
	l = named("a")
	l[0].Parts = []api.Part{{Body: []api.Act{{Op: api.Do, At: 1, Args: []api.Node{num(1)}}}}, {Params: 1, Body: []api.Act{out(api.Node{Op: api.Local})}}, {}}
	wantCheck(t, "a call of what stands behind", l, ok)
	l[0].Parts[2].Body = []api.Act{out(api.Node{Op: api.Local})}
	wantCheck(t, "another part's local", l, f)
}
