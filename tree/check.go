package tree

import (
	"slices"

	"bellwright/api"
	"bellwright/lex"
)

// checker has the shapes at hand, so that one call makes them once.
type checker struct {
	exprs, stmts map[int]shape
}

// bodies tells the blocks that are one deep.
func bodies(m api.Module) [][]api.Stmt {
	var l [][]api.Stmt
	for _, p := range m.Procs {
		l = append(l, p.Body)
	}
	return append(l, m.Main)
}

func (c checker) hasKinds(m api.Module) bool {
	for _, d := range m.Decls {
		if d.Kind < api.Const || d.Kind > api.Array {
			return false
		}
	}
	for _, b := range bodies(m) {
		if !c.blockHasKinds(b, 1) {
			return false
		}
	}
	return true
}

// blockHasKinds looks at bodies of all statements, those too that may have none: an Op in them is one of a statement.
func (c checker) blockHasKinds(l []api.Stmt, deep int) bool {
	if deep > api.MaxDeep {
		return true
	}
	for _, s := range l {
		if _, ok := c.stmts[s.Op]; !ok {
			return false
		}
		if !c.exprsHaveKinds(s.Args, 1) || !c.blockHasKinds(s.Body, deep+1) || !c.blockHasKinds(s.Other, deep+1) {
			return false
		}
	}
	return true
}

func (c checker) exprsHaveKinds(l []api.Expr, deep int) bool {
	if deep > api.MaxDeep {
		return true
	}
	for _, x := range l {
		if _, ok := c.exprs[x.Op]; !ok || !c.exprsHaveKinds(x.Args, deep+1) {
			return false
		}
	}
	return true
}

func (c checker) hasTooMany(m api.Module) bool {
	if len(m.Uses) > api.MaxUses || len(m.Decls) > api.MaxDecls || len(m.Procs) > api.MaxProcs {
		return true
	}
	for _, p := range m.Procs {
		if len(p.Params) > api.MaxParams || len(p.Locals) > api.MaxLocals {
			return true
		}
	}
	for _, b := range bodies(m) {
		if c.blockHasTooMany(b, 1) {
			return true
		}
	}
	return false
}

func (c checker) blockHasTooMany(l []api.Stmt, deep int) bool {
	if deep > api.MaxDeep || len(l) > api.MaxBlock {
		return true
	}
	for _, s := range l {
		if exprsAreTooMany(s.Args, 1) {
			return true
		}
		// A body that must be there is a block, even without statements.
		if (c.stmts[s.Op].body || len(s.Body) > 0) && c.blockHasTooMany(s.Body, deep+1) {
			return true
		}
		if len(s.Other) > 0 && c.blockHasTooMany(s.Other, deep+1) {
			return true
		}
	}
	return false
}

func exprsAreTooMany(l []api.Expr, deep int) bool {
	if len(l) > api.MaxParams || len(l) > 0 && deep > api.MaxDeep {
		return true
	}
	for _, x := range l {
		if exprsAreTooMany(x.Args, deep+1) {
			return true
		}
	}
	return false
}

func (c checker) hasForm(m api.Module) bool {
	if !isName(m.Name) || !areNames(m.Uses) {
		return false
	}
	for _, d := range m.Decls {
		if !isName(d.Name) || !sizeHolds(d) {
			return false
		}
	}
	for _, p := range m.Procs {
		if !isName(p.Name) || !areNames(p.Params) || !areNames(p.Locals) {
			return false
		}
	}
	for _, b := range bodies(m) {
		if !c.blockHasForm(b) {
			return false
		}
	}
	return true
}

// sizeHolds is asked of declarations whose Kind is one.
func sizeHolds(d api.Decl) bool {
	switch d.Kind {
	case api.Const:
		return isNumber(d.N)
	case api.Array:
		return d.N >= 1 && d.N <= api.MaxArray
	}
	return d.N == 0
}

func (c checker) blockHasForm(l []api.Stmt) bool {
	for _, s := range l {
		h := c.stmts[s.Op]
		if !h.refHolds(s.Mod, s.Name) || !h.countHolds(s.Args) || !c.exprsHaveForm(s.Args) {
			return false
		}
		if !h.body && len(s.Body) > 0 || !h.other && len(s.Other) > 0 {
			return false
		}
		if !c.blockHasForm(s.Body) || !c.blockHasForm(s.Other) {
			return false
		}
	}
	return true
}

func (c checker) exprsHaveForm(l []api.Expr) bool {
	for _, x := range l {
		h := c.exprs[x.Op]
		if !h.refHolds(x.Mod, x.Name) || !h.numberHolds(x.N) || !h.countHolds(x.Args) || !c.exprsHaveForm(x.Args) {
			return false
		}
	}
	return true
}

func (h shape) refHolds(mod, name string) bool {
	if !h.named {
		return mod == "" && name == ""
	}
	return isName(name) && (mod == "" || isName(mod))
}

func (h shape) numberHolds(n int) bool {
	if !h.number {
		return n == 0
	}
	return isNumber(n)
}

func (h shape) countHolds(args []api.Expr) bool {
	return len(args) >= h.least && len(args) <= h.most
}

func areNames(l []string) bool {
	return !slices.ContainsFunc(l, func(s string) bool { return !isName(s) })
}

// isName is asked of names of modules, which are words, but none of those that the text itself needs.
func isName(s string) bool {
	return !isKept(s) && isToken(api.Tok{Kind: api.Word, Text: s})
}

func isNumber(n int) bool {
	return isToken(api.Tok{Kind: api.Number, N: n})
}

func isToken(t api.Tok) bool {
	return lex.Check([]api.Tok{t}) == api.OK
}

func isKept(s string) bool {
	switch s {
	case "module", "use", "pub", "const", "var", "array", "proc", "local", "main",
		"if", "else", "while", "return", "out", "in":
		return true
	}
	return false
}
