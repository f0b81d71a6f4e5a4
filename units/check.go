package units

import "bellwright/api"

// checker asks the statements of one body.
type checker struct {
	unit   api.Unit
	uses   Uses
	locals int
}

func (c checker) blockHolds(l []api.Act, deep int) bool {
	if deep > api.MaxDeep || len(l) > api.MaxBlock {
		return false
	}
	for _, a := range l {
		if !c.actHolds(a) || !c.nodesHold(a.Args, 1) || !c.innerHolds(a, deep+1) {
			return false
		}
	}
	return true
}

// innerHolds asks for the blocks that a statement has, which are so many deep.
func (c checker) innerHolds(a api.Act, deep int) bool {
	switch a.Op {
	case api.If:
		return c.blockHolds(a.Body, deep) && c.blockHolds(a.Other, deep)
	case api.While:
		return c.blockHolds(a.Body, deep) && len(a.Other) == 0
	}
	return len(a.Body) == 0 && len(a.Other) == 0
}

// actHolds tells whether a statement is right, but for what lies in it.
func (c checker) actHolds(a api.Act) bool {
	args := len(a.Args)
	switch a.Op {
	case api.Set:
		if a.M == -1 {
			return args == 1 && a.N == 0 && c.localHolds(a.At)
		}
		return args == 1 && a.N == 0 && c.numbersHold(a.M, a.At, 1)
	case api.Put:
		return args == 2 && c.arrayHolds(a.N, a.M, a.At)
	case api.Do:
		return a.N == 0 && c.partHolds(a.M, a.At, args)
	case api.If, api.While, api.Return, api.Out:
		return args == 1 && a.N == 0 && a.M == 0 && a.At == 0
	}
	return false
}

func (c checker) nodesHold(l []api.Node, deep int) bool {
	if len(l) > 0 && deep > api.MaxDeep {
		return false
	}
	for _, n := range l {
		if !c.nodeHolds(n) || !c.nodesHold(n.Args, deep+1) {
			return false
		}
	}
	return true
}

// nodeHolds tells whether an expression is right, but for its arguments.
func (c checker) nodeHolds(n api.Node) bool {
	args := len(n.Args)
	switch n.Op {
	case api.Var:
		return args == 0 && n.N == 0 && c.numbersHold(n.M, n.At, 1)
	case api.Elem:
		return args == 1 && c.arrayHolds(n.N, n.M, n.At)
	case api.Call:
		return n.N == 0 && c.partHolds(n.M, n.At, args)
	case api.Local:
		return args == 0 && n.N == 0 && n.M == 0 && c.localHolds(n.At)
	case api.Num:
		return args == 0 && n.N >= 0 && n.N <= api.MaxNumber && n.M == 0 && n.At == 0
	}
	return args == argsOf(n.Op) && n.N == 0 && n.M == 0 && n.At == 0
}

// argsOf tells how many arguments an operation without other fields has: -1, if there is no such one.
func argsOf(op int) int {
	switch {
	case op == api.In:
		return 0
	case op == api.Not:
		return 1
	case op >= api.And && op <= api.Less:
		return 2
	}
	return -1
}

func (c checker) localHolds(at int) bool {
	return at >= 0 && at < c.locals
}

// isUse tells whether a number is that of a use.
func (c checker) isUse(m int) bool {
	return m >= 1 && m <= len(c.unit.Uses)
}

func (c checker) numbersHold(m, at, n int) bool {
	if m == 0 {
		return LieIn(c.unit.Data, at, n)
	}
	return c.isUse(m) && c.uses.HasNumbers(m, at, n)
}

func (c checker) arrayHolds(n, m, at int) bool {
	return n >= 1 && n <= api.MaxArray && c.numbersHold(m, at, n)
}

func (c checker) partHolds(m, at, args int) bool {
	if m == 0 {
		return at >= 0 && at < len(c.unit.Parts) && c.unit.Parts[at].Params == args
	}
	return c.isUse(m) && c.uses.HasPart(m, at, args)
}
