package sem

import (
	"bellwright/api"
	"bellwright/scope"
)

func usesAreAhead(l []api.Unit) bool {
	ahead := map[string]int{}
	for _, u := range l {
		for _, use := range u.Uses {
			if ahead[use] == 0 {
				return false
			}
		}
		ahead[u.Name]++
	}
	return true
}

func hasNameTwice(l []api.Unit) bool {
	count := map[string]int{}
	for _, u := range l {
		count[u.Name]++
	}
	return len(count) < len(l)
}

func dataHolds(l []api.Unit) bool {
	sum := 0
	for _, u := range l {
		if u.Data < 0 || u.Data > api.MaxData {
			return false
		}
		sum += u.Data
	}
	return sum <= api.MaxData
}

// formHolds is asked when each use is the name of one unit ahead.
func formHolds(l []api.Unit) bool {
	at := map[string]int{}
	for i, u := range l {
		at[u.Name] = i
		if !headHolds(u) {
			return false
		}
		c := checker{near: []api.Unit{u}}
		for _, use := range u.Uses {
			c.near = append(c.near, l[at[use]])
		}
		for _, p := range u.Parts {
			c.locals = p.Params + p.Locals
			if !c.blockHolds(p.Body, 1) {
				return false
			}
		}
		c.locals = 0
		if !c.blockHolds(u.Main, 1) {
			return false
		}
	}
	return true
}

// headHolds tells whether a unit is right, but for its statements.
func headHolds(u api.Unit) bool {
	// A module without declarations has a face, if its name and its uses are as they must be.
	if _, e := scope.Face(api.Module{Name: u.Name, Uses: u.Uses}); e != api.OK {
		return false
	}
	for _, p := range u.Parts {
		if p.Params < 0 || p.Params > api.MaxParams || p.Locals < 0 || p.Locals > api.MaxLocals {
			return false
		}
	}
	return len(u.Parts) <= api.MaxProcs
}

// checker asks the statements of one body.
type checker struct {
	near   []api.Unit // by M: the unit itself, then its uses
	locals int
}

func (c checker) blockHolds(l []api.Act, deep int) bool {
	if deep > api.MaxDeep || len(l) > api.MaxBlock {
		return false
	}
	for _, a := range l {
		if !c.actHolds(a) || !c.nodesHold(a.Args, 1) || !c.innerHolds(a, deep+1) {
			return false
		}
	}
	return true
}

// innerHolds asks for the blocks that a statement has, which are so many deep.
func (c checker) innerHolds(a api.Act, deep int) bool {
	switch a.Op {
	case api.If:
		return c.blockHolds(a.Body, deep) && c.blockHolds(a.Other, deep)
	case api.While:
		return c.blockHolds(a.Body, deep) && len(a.Other) == 0
	}
	return len(a.Body) == 0 && len(a.Other) == 0
}

// actHolds tells whether a statement is right, but for what lies in it.
func (c checker) actHolds(a api.Act) bool {
	args := len(a.Args)
	switch a.Op {
	case api.Set:
		if a.M == -1 {
			return args == 1 && a.N == 0 && c.localHolds(a.At)
		}
		return args == 1 && a.N == 0 && c.numbersHold(a.M, a.At, 1)
	case api.Put:
		return args == 2 && c.arrayHolds(a.N, a.M, a.At)
	case api.Do:
		return a.N == 0 && c.partHolds(a.M, a.At, args)
	case api.If, api.While, api.Return, api.Out:
		return args == 1 && a.N == 0 && a.M == 0 && a.At == 0
	}
	return false
}

func (c checker) nodesHold(l []api.Node, deep int) bool {
	if len(l) > 0 && deep > api.MaxDeep {
		return false
	}
	for _, n := range l {
		if !c.nodeHolds(n) || !c.nodesHold(n.Args, deep+1) {
			return false
		}
	}
	return true
}

// nodeHolds tells whether an expression is right, but for its arguments.
func (c checker) nodeHolds(n api.Node) bool {
	args := len(n.Args)
	switch n.Op {
	case api.Var:
		return args == 0 && n.N == 0 && c.numbersHold(n.M, n.At, 1)
	case api.Elem:
		return args == 1 && c.arrayHolds(n.N, n.M, n.At)
	case api.Call:
		return n.N == 0 && c.partHolds(n.M, n.At, args)
	case api.Local:
		return args == 0 && n.N == 0 && n.M == 0 && c.localHolds(n.At)
	case api.Num:
		return args == 0 && n.N >= 0 && n.N <= api.MaxNumber && n.M == 0 && n.At == 0
	}
	return args == argsOf(n.Op) && n.N == 0 && n.M == 0 && n.At == 0
}

// argsOf tells how many arguments an operation without other fields has: -1, if there is no such one.
func argsOf(op int) int {
	switch {
	case op == api.In:
		return 0
	case op == api.Not:
		return 1
	case op >= api.And && op <= api.Less:
		return 2
	}
	return -1
}

func (c checker) localHolds(at int) bool {
	return at >= 0 && at < c.locals
}

func (c checker) unitHolds(m int) bool {
	return m >= 0 && m < len(c.near)
}

// numbersHold tells whether n numbers from a place on lie in a unit's data: at and n are not added, as their sum could go round.
func (c checker) numbersHold(m, at, n int) bool {
	return c.unitHolds(m) && at >= 0 && at <= c.near[m].Data-n
}

func (c checker) arrayHolds(n, m, at int) bool {
	return n >= 1 && n <= api.MaxArray && c.numbersHold(m, at, n)
}

func (c checker) partHolds(m, at, args int) bool {
	return c.unitHolds(m) && at >= 0 && at < len(c.near[m].Parts) && c.near[m].Parts[at].Params == args
}
