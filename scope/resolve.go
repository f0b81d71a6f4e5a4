package scope

import (
	"slices"

	"bellwright/api"
)

// ref is a name as it stands in a text: mod is empty, if it has no module.
type ref struct{ mod, name string }

// meaning is what a name stands for: kind, n and at as an item has them, m the module.
type meaning struct{ kind, n, m, at int }

// names has what all names stand for that a module and its uses' faces declare.
type names struct {
	known map[ref]meaning
}

// body resolves one body: its parameters and locals, by their numbers, hide what the module declares.
type body struct {
	names
	locals map[string]int
}

// inLocal is the kind of what is no item: a parameter or a local.
const inLocal = 0

// unit is asked for when all that is to be known ahead of the bodies is right.
func unit(m api.Module, l []api.Face) (api.Unit, api.Errno) {
	items, data := layout(m)
	n := names{known: map[ref]meaning{}}
	n.declare("", 0, items)
	for i, f := range l {
		n.declare(f.Name, i+1, f.Items)
	}
	u := api.Unit{Name: m.Name, Uses: append([]string(nil), m.Uses...), Data: data}
	for _, p := range m.Procs {
		part, e := n.part(p)
		if e != api.OK {
			return api.Unit{}, e
		}
		u.Parts = append(u.Parts, part)
	}
	acts, e := body{names: n}.acts(m.Main)
	if e != api.OK {
		return api.Unit{}, e
	}
	u.Main = acts
	return u, api.OK
}

func (n names) declare(mod string, m int, items []api.Item) {
	for _, it := range items {
		n.known[ref{mod, it.Name}] = meaning{it.Kind, it.N, m, it.At}
	}
}

func (n names) part(p api.Proc) (api.Part, api.Errno) {
	all := slices.Concat(p.Params, p.Locals)
	if isTwice(all) {
		return api.Part{}, api.ErrThere
	}
	b := body{names: n, locals: map[string]int{}}
	for i, name := range all {
		b.locals[name] = i
	}
	acts, e := b.acts(p.Body)
	return api.Part{Params: len(p.Params), Locals: len(p.Locals), Body: acts}, e
}

// find tells what a name stands for, if that is of one of the kinds that its place asks for.
func (b body) find(mod, name string, kinds ...int) (meaning, api.Errno) {
	x, is := b.known[ref{mod, name}]
	if at, hides := b.locals[name]; hides && mod == "" {
		x, is = meaning{kind: inLocal, at: at}, true
	}
	if !is {
		return meaning{}, api.ErrNone
	}
	if !slices.Contains(kinds, x.kind) {
		return meaning{}, api.ErrWrong
	}
	return x, api.OK
}

// routine tells a procedure that is handed so many numbers.
func (b body) routine(mod, name string, handed int) (meaning, api.Errno) {
	x, e := b.find(mod, name, api.Routine)
	if e == api.OK && x.n != handed {
		return meaning{}, api.ErrCount
	}
	return x, e
}

func (b body) acts(l []api.Stmt) ([]api.Act, api.Errno) {
	var acts []api.Act
	for _, s := range l {
		a, e := b.act(s)
		if e != api.OK {
			return nil, e
		}
		acts = append(acts, a)
	}
	return acts, api.OK
}

// act asks for the statement's own name first, then for its expressions, then for its blocks.
func (b body) act(s api.Stmt) (api.Act, api.Errno) {
	a, e := b.actAlone(s)
	if e != api.OK {
		return api.Act{}, e
	}
	if a.Args, e = b.nodes(s.Args); e != api.OK {
		return api.Act{}, e
	}
	if a.Body, e = b.acts(s.Body); e != api.OK {
		return api.Act{}, e
	}
	a.Other, e = b.acts(s.Other)
	return a, e
}

// actAlone tells a statement without what lies in it.
func (b body) actAlone(s api.Stmt) (api.Act, api.Errno) {
	switch s.Op {
	case api.Set:
		x, e := b.find(s.Mod, s.Name, inLocal, api.Global)
		if x.kind == inLocal {
			x.m = -1
		}
		return api.Act{Op: s.Op, M: x.m, At: x.at}, e
	case api.Put:
		x, e := b.find(s.Mod, s.Name, api.Array)
		return api.Act{Op: s.Op, N: x.n, M: x.m, At: x.at}, e
	case api.Do:
		x, e := b.routine(s.Mod, s.Name, len(s.Args))
		return api.Act{Op: s.Op, M: x.m, At: x.at}, e
	}
	return api.Act{Op: s.Op}, api.OK
}

func (b body) nodes(l []api.Expr) ([]api.Node, api.Errno) {
	var nodes []api.Node
	for _, x := range l {
		n, e := b.nodeAlone(x)
		if e != api.OK {
			return nil, e
		}
		if n.Args, e = b.nodes(x.Args); e != api.OK {
			return nil, e
		}
		nodes = append(nodes, n)
	}
	return nodes, api.OK
}

// nodeAlone tells an expression without its arguments.
func (b body) nodeAlone(x api.Expr) (api.Node, api.Errno) {
	switch x.Op {
	case api.Var:
		return b.value(x)
	case api.Elem:
		a, e := b.find(x.Mod, x.Name, api.Array)
		return api.Node{Op: x.Op, N: a.n, M: a.m, At: a.at}, e
	case api.Call:
		p, e := b.routine(x.Mod, x.Name, len(x.Args))
		return api.Node{Op: x.Op, M: p.m, At: p.at}, e
	}
	return api.Node{Op: x.Op, N: x.N}, api.OK
}

// value tells a name that stands for one number.
func (b body) value(x api.Expr) (api.Node, api.Errno) {
	v, e := b.find(x.Mod, x.Name, inLocal, api.Const, api.Global)
	if e != api.OK {
		return api.Node{}, e
	}
	switch v.kind {
	case api.Const:
		return api.Node{Op: api.Num, N: v.n}, api.OK
	case api.Global:
		return api.Node{Op: api.Var, M: v.m, At: v.at}, api.OK
	}
	return api.Node{Op: api.Local, At: v.at}, api.OK
}
