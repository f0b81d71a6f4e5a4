// Package tree: modules as text: see doc/02-tree.md.
package tree

import (
	"bellwright/api"
	"bellwright/lex"
)

// Check tells whether a module is right: kinds are asked of all of it ahead of how many there are, and that ahead of forms.
func Check(m api.Module) api.Errno {
	c := checker{exprs: exprShapes(), stmts: stmtShapes()}
	switch {
	case !c.hasKinds(m):
		return api.ErrKind
	case c.hasTooMany(m):
		return api.ErrMany
	case !c.hasForm(m):
		return api.ErrForm
	}
	return api.OK
}

// Parse tells the module of a text.
func Parse(s string) (api.Module, api.Errno) {
	l, e := lex.Lex(s)
	if e != api.OK {
		return api.Module{}, e
	}
	m, ok := parsed(l)
	if !ok || Check(m) != api.OK {
		// Of a text, more than there may be is a wrong form too: no right module has it.
		return api.Module{}, api.ErrForm
	}
	return m, api.OK
}

// Show tells the text of a module.
func Show(m api.Module) (string, api.Errno) {
	if e := Check(m); e != api.OK {
		return "", e
	}
	return lex.Show(moduleTokens(m))
}
