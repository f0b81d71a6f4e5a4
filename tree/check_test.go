package tree

import (
	"math"
	"strings"
	"testing"

	"bellwright/api"
)

// want asks Check, and Show, which tells Check's errors.
func want(t *testing.T, what string, m api.Module, e api.Errno) {
	t.Helper()
	if got := Check(m); got != e {
		t.Errorf("%s: Check %d, must be %d", what, got, e)
	}
	if s, got := Show(m); got != e || (s == "") != (e != api.OK) {
		t.Errorf("%s: Show %d %.60q, must be %d", what, got, s, e)
	}
}

func TestCheckRight(t *testing.T) {
	want(t, "whole", whole(), api.OK)
	want(t, "least", mainOf(), api.OK)
	want(t, "lists without elements", api.Module{Name: "m", Uses: []string{}, Decls: []api.Decl{}, Procs: []api.Proc{{Name: "p", Params: []string{}, Locals: []string{}, Body: []api.Stmt{}}}, Main: []api.Stmt{{Op: api.Do, Name: "p", Args: []api.Expr{}, Body: []api.Stmt{}, Other: []api.Stmt{}}}}, api.OK)
	want(t, "two of one name", api.Module{Name: "m", Uses: []string{"m", "m"}, Procs: []api.Proc{{Name: "m", Params: []string{"m", "m"}, Locals: []string{"m"}}}}, api.OK)
}

// B2: which Ops and Kinds there are.
func TestCheckKinds(t *testing.T) {
	for _, op := range []int{math.MinInt, -1, 0, api.Out + 1, 100, math.MaxInt} {
		s := api.Stmt{Op: op}
		want(t, "statement", mainOf(s), api.ErrKind)
		want(t, "statement behind others", mainOf(out(num(1)), s), api.ErrKind)
		want(t, "statement of a procedure", api.Module{Name: "m", Procs: []api.Proc{{Name: "p"}, {Name: "q", Body: []api.Stmt{s}}}}, api.ErrKind)
		want(t, "statement in a body", mainOf(api.Stmt{Op: api.While, Args: []api.Expr{num(1)}, Body: []api.Stmt{s}}), api.ErrKind)
		want(t, "statement behind else", mainOf(api.Stmt{Op: api.If, Args: []api.Expr{num(1)}, Other: []api.Stmt{s}}), api.ErrKind)
		want(t, "statement in a body that may not be", mainOf(api.Stmt{Op: api.Out, Args: []api.Expr{num(1)}, Body: []api.Stmt{s}}), api.ErrKind)
		want(t, "statement behind an else that may not be", mainOf(api.Stmt{Op: api.While, Args: []api.Expr{num(1)}, Other: []api.Stmt{s}}), api.ErrKind)
	}
	for _, op := range []int{math.MinInt, -1, 0, api.Less + 1, api.Local, 100, math.MaxInt} {
		x := api.Expr{Op: op}
		want(t, "expression", mainOf(out(x)), api.ErrKind)
		want(t, "expression of a while", mainOf(api.Stmt{Op: api.While, Args: []api.Expr{x}}), api.ErrKind)
		want(t, "second expression", mainOf(out(expr(api.Add, num(1), x))), api.ErrKind)
		want(t, "expression in a body", mainOf(whiles(3, out(x))...), api.ErrKind)
		want(t, "argument that may not be", mainOf(out(expr(api.Num, x))), api.ErrKind)
		want(t, "argument of a call", mainOf(out(call("f", num(1), num(2), x))), api.ErrKind)
	}
	for _, kind := range []int{math.MinInt, -1, 0, api.Routine, 5, math.MaxInt} {
		want(t, "declaration", api.Module{Name: "m", Decls: []api.Decl{{Kind: kind, Name: "x"}}}, api.ErrKind)
		want(t, "second declaration", api.Module{Name: "m", Decls: []api.Decl{{Kind: api.Global, Name: "x"}, {Kind: kind, Name: "x"}}}, api.ErrKind)
	}
}

// manyAt tells a module that has n of something.
func manyAt() map[string]func(n int) api.Module {
	body := func(l []api.Stmt) api.Module {
		return api.Module{Name: "m", Procs: []api.Proc{{Name: "p"}, {Name: "q", Body: l}}}
	}
	block := func(n int) []api.Stmt { return repeat(out(num(1)), n) }
	return map[string]func(n int) api.Module{
		"uses": func(n int) api.Module { return api.Module{Name: "m", Uses: repeat("u", n)} },
		"declarations": func(n int) api.Module {
			return api.Module{Name: "m", Decls: repeat(api.Decl{Kind: api.Global, Name: "v"}, n)}
		},
		"procedures": func(n int) api.Module { return api.Module{Name: "m", Procs: repeat(api.Proc{Name: "p"}, n)} },
		"parameters": func(n int) api.Module {
			return api.Module{Name: "m", Procs: []api.Proc{{Name: "p"}, {Name: "q", Params: repeat("x", n)}}}
		},
		"locals": func(n int) api.Module {
			return api.Module{Name: "m", Procs: []api.Proc{{Name: "p"}, {Name: "q", Locals: repeat("x", n)}}}
		},
		"arguments":           func(n int) api.Module { return mainOf(out(call("f", repeat(num(1), n)...))) },
		"arguments of do":     func(n int) api.Module { return mainOf(api.Stmt{Op: api.Do, Name: "f", Args: repeat(num(1), n)}) },
		"inner arguments":     func(n int) api.Module { return mainOf(out(expr(api.Not, call("f", repeat(num(1), n)...)))) },
		"second arguments":    func(n int) api.Module { return mainOf(out(expr(api.Add, num(1), call("f", repeat(num(1), n)...)))) },
		"statements":          func(n int) api.Module { return mainOf(block(n)...) },
		"statements of procs": func(n int) api.Module { return body(block(n)) },
		"inner statements":    func(n int) api.Module { return mainOf(whiles(3, block(n)...)...) },
		"statements of an if": func(n int) api.Module {
			return body([]api.Stmt{{Op: api.If, Args: []api.Expr{num(1)}, Body: block(n)}})
		},
		"other statements": func(n int) api.Module {
			return mainOf(api.Stmt{Op: api.If, Args: []api.Expr{num(1)}, Other: block(n)})
		},
		"expressions in one another": func(n int) api.Module { return mainOf(out(nots(n))) },
		"expressions in blocks":      func(n int) api.Module { return mainOf(whiles(api.MaxDeep, out(nots(n)))...) },
		"expressions of a put": func(n int) api.Module {
			return mainOf(api.Stmt{Op: api.Put, Name: "t", Args: []api.Expr{num(1), nots(n)}})
		},
		"calls in one another": func(n int) api.Module {
			x := call("f")
			for range n - 1 {
				x = call("f", num(1), x)
			}
			return mainOf(set("x", x))
		},
		"elements in one another": func(n int) api.Module {
			x := num(1)
			for range n - 1 {
				x = api.Expr{Op: api.Elem, Name: "t", Args: []api.Expr{x}}
			}
			return mainOf(set("x", x))
		},
		"sums in one another": func(n int) api.Module {
			x := num(1)
			for range n - 1 {
				x = expr(api.Add, num(1), x)
			}
			return mainOf(set("x", x))
		},
		"blocks in one another":     func(n int) api.Module { return mainOf(whiles(n)...) },
		"blocks with a statement":   func(n int) api.Module { return mainOf(whiles(n, out(num(1)))...) },
		"blocks of a procedure":     func(n int) api.Module { return body(whiles(n)) },
		"blocks behind a statement": func(n int) api.Module { return mainOf(append([]api.Stmt{out(num(1))}, whiles(n)...)...) },
		"ifs in one another":        func(n int) api.Module { return mainOf(ifs(n)...) },
		"elses in one another":      func(n int) api.Module { return mainOf(elses(n, out(num(1)))...) },
		"blocks behind else": func(n int) api.Module {
			return mainOf(api.Stmt{Op: api.If, Args: []api.Expr{num(1)}, Other: append([]api.Stmt{out(num(1))}, whiles(n-1)...)})
		},
		"blocks of the last of procs": func(n int) api.Module {
			return api.Module{Name: "m", Procs: append(repeat(api.Proc{Name: "p"}, 5), api.Proc{Name: "p", Body: whiles(n)})}
		},
	}
}

// ifs lie in one another so many deep, the innermost one with a block that is empty.
func ifs(deep int) []api.Stmt {
	var l []api.Stmt
	for range deep - 1 {
		l = []api.Stmt{{Op: api.If, Args: []api.Expr{num(1)}, Body: l}}
	}
	return l
}

// elses lie in one another so many deep, each in the other block of the one ahead; the innermost one has these statements.
func elses(deep int, l ...api.Stmt) []api.Stmt {
	for range deep - 1 {
		l = []api.Stmt{{Op: api.If, Args: []api.Expr{num(1)}, Other: l}}
	}
	return l
}

func limitOf(what string) int {
	switch {
	case what == "uses":
		return api.MaxUses
	case what == "declarations":
		return api.MaxDecls
	case what == "procedures":
		return api.MaxProcs
	case what == "locals":
		return api.MaxLocals
	case strings.Contains(what, "parameters"), strings.Contains(what, "arguments"):
		return api.MaxParams
	case strings.Contains(what, "statements"):
		return api.MaxBlock
	}
	return api.MaxDeep
}

// B2: at each limit all is right, one beyond there are too many.
func TestCheckMany(t *testing.T) {
	for what, make := range manyAt() {
		n := limitOf(what)
		want(t, what+" at the limit", make(n), api.OK)
		want(t, what+" one beyond", make(n+1), api.ErrMany)
		want(t, what+" far beyond", make(n+40), api.ErrMany)
	}
}

// B2: more arguments than may be are too many, whatever has them; a block that may not be is one all the same.
func TestCheckManyOfFew(t *testing.T) {
	four := repeat(num(1), api.MaxParams+1)
	for op := api.Num; op <= api.Less; op++ {
		want(t, "expression", mainOf(out(expr(op, four...))), api.ErrMany)
	}
	for op := api.Set; op <= api.Out; op++ {
		want(t, "statement", mainOf(stmt(op, four...)), api.ErrMany)
	}
	want(t, "body of out", mainOf(api.Stmt{Op: api.Out, Args: []api.Expr{num(1)}, Body: repeat(out(num(1)), api.MaxBlock+1)}), api.ErrMany)
	want(t, "else of while", mainOf(api.Stmt{Op: api.While, Args: []api.Expr{num(1)}, Other: repeat(out(num(1)), api.MaxBlock+1)}), api.ErrMany)
	want(t, "body of out, too deep", mainOf(whiles(api.MaxDeep, api.Stmt{Op: api.Out, Args: []api.Expr{num(1)}, Body: []api.Stmt{out(num(1))}})...), api.ErrMany)
}

// B2: what names, numbers and fields must be.
func TestCheckForm(t *testing.T) {
	one := []api.Expr{num(1)}
	do := []api.Stmt{{Op: api.Do, Name: "p"}}
	decl := func(d api.Decl) api.Module {
		return api.Module{Name: "m", Decls: []api.Decl{{Kind: api.Global, Name: "a"}, d}}
	}
	for what, m := range map[string]api.Module{
		"number below 0":            mainOf(out(num(-1))),
		"number above MaxNumber":    mainOf(out(num(api.MaxNumber + 1))),
		"least number":              mainOf(out(num(math.MinInt))),
		"constant below 0":          decl(api.Decl{Kind: api.Const, Name: "x", N: -1}),
		"constant above MaxNumber":  decl(api.Decl{Kind: api.Const, Name: "x", N: api.MaxNumber + 1}),
		"variable with a number":    decl(api.Decl{Kind: api.Global, Name: "x", N: 1}),
		"variable below 0":          decl(api.Decl{Kind: api.Global, Name: "x", N: -1}),
		"array without elements":    decl(api.Decl{Kind: api.Array, Name: "x"}),
		"array below 0":             decl(api.Decl{Kind: api.Array, Name: "x", N: -1}),
		"array above MaxArray":      decl(api.Decl{Kind: api.Array, Name: "x", N: api.MaxArray + 1}),
		"set without an expression": mainOf(api.Stmt{Op: api.Set, Name: "x"}),
		"set with two":              mainOf(api.Stmt{Op: api.Set, Name: "x", Args: []api.Expr{num(1), num(1)}}),
		"set without a name":        mainOf(stmt(api.Set, num(1))),
		"set with a body":           mainOf(api.Stmt{Op: api.Set, Name: "x", Args: one, Body: do}),
		"set with an else":          mainOf(api.Stmt{Op: api.Set, Name: "x", Args: one, Other: do}),
		"set with a module only":    mainOf(api.Stmt{Op: api.Set, Mod: "x", Args: one}),
		"put with one":              mainOf(api.Stmt{Op: api.Put, Name: "x", Args: one}),
		"put with three":            mainOf(api.Stmt{Op: api.Put, Name: "x", Args: repeat(num(1), 3)}),
		"put without a name":        mainOf(stmt(api.Put, num(1), num(2))),
		"put with a body":           mainOf(api.Stmt{Op: api.Put, Name: "x", Args: repeat(num(1), 2), Body: do}),
		"put with an else":          mainOf(api.Stmt{Op: api.Put, Name: "x", Args: repeat(num(1), 2), Other: do}),
		"do without a name":         mainOf(stmt(api.Do)),
		"do with a body":            mainOf(api.Stmt{Op: api.Do, Name: "x", Body: do}),
		"do with an else":           mainOf(api.Stmt{Op: api.Do, Name: "x", Other: do}),
		"if without an expression":  mainOf(stmt(api.If)),
		"if with two":               mainOf(stmt(api.If, num(1), num(2))),
		"if with a name":            mainOf(api.Stmt{Op: api.If, Name: "x", Args: one}),
		"if with a module":          mainOf(api.Stmt{Op: api.If, Mod: "x", Args: one}),
		"while without one":         mainOf(stmt(api.While)),
		"while with two":            mainOf(stmt(api.While, num(1), num(2))),
		"while with a name":         mainOf(api.Stmt{Op: api.While, Name: "x", Args: one}),
		"while with an else":        mainOf(api.Stmt{Op: api.While, Args: one, Other: do}),
		"return without one":        mainOf(stmt(api.Return)),
		"return with two":           mainOf(stmt(api.Return, num(1), num(2))),
		"return with a name":        mainOf(api.Stmt{Op: api.Return, Name: "x", Args: one}),
		"return with a body":        mainOf(api.Stmt{Op: api.Return, Args: one, Body: do}),
		"return with an else":       mainOf(api.Stmt{Op: api.Return, Args: one, Other: do}),
		"out without one":           mainOf(stmt(api.Out)),
		"out with two":              mainOf(stmt(api.Out, num(1), num(2))),
		"out with a name":           mainOf(api.Stmt{Op: api.Out, Name: "x", Args: one}),
		"out with a body":           mainOf(api.Stmt{Op: api.Out, Args: one, Body: do}),
		"out with an else":          mainOf(api.Stmt{Op: api.Out, Args: one, Other: do}),
		"num with a name":           mainOf(out(api.Expr{Op: api.Num, Name: "x"})),
		"num with a module":         mainOf(out(api.Expr{Op: api.Num, Mod: "x"})),
		"num with an argument":      mainOf(out(expr(api.Num, num(1)))),
		"in with a number":          mainOf(out(api.Expr{Op: api.In, N: 1})),
		"in with a name":            mainOf(out(api.Expr{Op: api.In, Name: "x"})),
		"in with an argument":       mainOf(out(expr(api.In, num(1)))),
		"var with a number":         mainOf(out(api.Expr{Op: api.Var, Name: "x", N: 1})),
		"var without a name":        mainOf(out(api.Expr{Op: api.Var})),
		"var with a module only":    mainOf(out(api.Expr{Op: api.Var, Mod: "x"})),
		"var with an argument":      mainOf(out(api.Expr{Op: api.Var, Name: "x", Args: one})),
		"elem with a number":        mainOf(out(api.Expr{Op: api.Elem, Name: "x", N: 1, Args: one})),
		"elem without a name":       mainOf(out(api.Expr{Op: api.Elem, Args: one})),
		"elem without an index":     mainOf(out(api.Expr{Op: api.Elem, Name: "x"})),
		"elem with two":             mainOf(out(api.Expr{Op: api.Elem, Name: "x", Args: repeat(num(1), 2)})),
		"call with a number":        mainOf(out(api.Expr{Op: api.Call, Name: "x", N: -1})),
		"call without a name":       mainOf(out(api.Expr{Op: api.Call})),
		"not without an argument":   mainOf(out(expr(api.Not))),
		"not with two":              mainOf(out(expr(api.Not, num(1), num(2)))),
		"not with a name":           mainOf(out(api.Expr{Op: api.Not, Name: "x", Args: one})),
		"not with a number":         mainOf(out(api.Expr{Op: api.Not, N: 1, Args: one})),
		"second statement":          mainOf(out(num(1)), out(num(-1))),
		"inner statement":           mainOf(whiles(4, out(num(-1)))...),
		"statement behind else":     mainOf(api.Stmt{Op: api.If, Args: one, Other: []api.Stmt{out(num(-1))}}),
		"statement of a procedure":  {Name: "m", Procs: []api.Proc{{Name: "p"}, {Name: "p", Body: []api.Stmt{out(num(-1))}}}},
		"inner expression":          mainOf(out(expr(api.Add, num(1), expr(api.Not, num(-1))))),
		"expression of a while":     mainOf(api.Stmt{Op: api.While, Args: []api.Expr{num(-1)}}),
		"number of a put":           mainOf(api.Stmt{Op: api.Put, Name: "x", Args: []api.Expr{num(1), num(-1)}}),
	} {
		want(t, what, m, api.ErrForm)
	}
	for op := api.And; op <= api.Less; op++ {
		want(t, "two", mainOf(out(expr(op, num(1), num(2)))), api.OK)
		want(t, "none of two", mainOf(out(expr(op))), api.ErrForm)
		want(t, "one of two", mainOf(out(expr(op, num(1)))), api.ErrForm)
		want(t, "three of two", mainOf(out(expr(op, num(1), num(2), num(3)))), api.ErrForm)
		want(t, "two with a name", mainOf(out(api.Expr{Op: op, Name: "x", Args: repeat(num(1), 2)})), api.ErrForm)
		want(t, "two with a number", mainOf(out(api.Expr{Op: op, N: 1, Args: repeat(num(1), 2)})), api.ErrForm)
	}
}

// B2: numbers and sizes at their limits.
func TestCheckNumbers(t *testing.T) {
	want(t, "numbers", mainOf(out(num(0)), out(num(api.MaxNumber))), api.OK)
	want(t, "constants", api.Module{Name: "m", Decls: []api.Decl{{Kind: api.Const, Name: "x"}, {Kind: api.Const, Name: "y", N: api.MaxNumber}}}, api.OK)
	want(t, "sizes", api.Module{Name: "m", Decls: []api.Decl{{Kind: api.Array, Name: "x", N: 1}, {Kind: api.Array, Name: "y", N: api.MaxArray}}}, api.OK)
}

// namedBy tells modules that have a name at each place where one may be.
func namedBy(s string) map[string]api.Module {
	one := []api.Expr{num(1)}
	proc := func(p api.Proc) api.Module { return api.Module{Name: "m", Procs: []api.Proc{p}} }
	return map[string]api.Module{
		"module":           {Name: s},
		"use":              {Name: "m", Uses: []string{s}},
		"last use":         {Name: "m", Uses: []string{"a", "b", s}},
		"constant":         {Name: "m", Decls: []api.Decl{{Kind: api.Const, Name: s}}},
		"variable":         {Name: "m", Decls: []api.Decl{{Kind: api.Const, Name: "a"}, {Kind: api.Global, Name: s}}},
		"array":            {Name: "m", Decls: []api.Decl{{Kind: api.Array, Name: s, N: 1}}},
		"procedure":        proc(api.Proc{Name: s}),
		"parameter":        proc(api.Proc{Name: "p", Params: []string{s}}),
		"last parameter":   proc(api.Proc{Name: "p", Params: []string{"a", "b", s}}),
		"local":            proc(api.Proc{Name: "p", Locals: []string{s}}),
		"last local":       proc(api.Proc{Name: "p", Locals: []string{"a", "b", "c", s}}),
		"set":              mainOf(set(s, num(1))),
		"put":              mainOf(api.Stmt{Op: api.Put, Name: s, Args: repeat(num(1), 2)}),
		"do":               mainOf(api.Stmt{Op: api.Do, Name: s}),
		"var":              mainOf(out(name(s))),
		"elem":             mainOf(out(api.Expr{Op: api.Elem, Name: s, Args: one})),
		"call":             mainOf(out(call(s))),
		"module and set":   mainOf(api.Stmt{Op: api.Set, Mod: "a", Name: s, Args: one}),
		"module and var":   mainOf(out(api.Expr{Op: api.Var, Mod: "a", Name: s})),
		"module of set":    mainOf(api.Stmt{Op: api.Set, Mod: s, Name: "x", Args: one}),
		"module of put":    mainOf(api.Stmt{Op: api.Put, Mod: s, Name: "x", Args: repeat(num(1), 2)}),
		"module of do":     mainOf(api.Stmt{Op: api.Do, Mod: s, Name: "x"}),
		"module of a var":  mainOf(out(api.Expr{Op: api.Var, Mod: s, Name: "x"})),
		"module of elem":   mainOf(out(api.Expr{Op: api.Elem, Mod: s, Name: "x", Args: one})),
		"module of a call": mainOf(out(api.Expr{Op: api.Call, Mod: s, Name: "x"})),
	}
}

const keptWords = "module use pub const var array proc local main if else while return out in"

// B1, B2: a name is a word that the text does not need; a Mod may be empty.
func TestCheckNames(t *testing.T) {
	for _, s := range []string{"a", "z9", "abcdefgh", "modules", "int", "x0", "pubs", "i", "elif", "and", "proc1"} {
		for where, m := range namedBy(s) {
			want(t, where+" "+s, m, api.OK)
		}
	}
	wrong := append(strings.Fields(keptWords), "abcdefghi", "A", "1", "1a", "a b", "a.b", " ", ".", "\xc3\xa4", "In", "a\x00")
	for _, s := range wrong {
		for where, m := range namedBy(s) {
			want(t, where+" "+s, m, api.ErrForm)
		}
	}
	for where, m := range namedBy("") {
		e := api.ErrForm
		if strings.HasPrefix(where, "module of") {
			e = api.OK
		}
		want(t, where+" without a name", m, e)
	}
}

// B2: the first of the errors that apply is told, wherever what it is told of stands.
func TestCheckOrder(t *testing.T) {
	form, kind := out(num(-1)), api.Stmt{}
	many := api.Stmt{Op: api.Do, Name: "x", Args: repeat(num(1), api.MaxParams+1)}
	want(t, "form, many, kind", mainOf(form, many, kind), api.ErrKind)
	want(t, "kind, many, form", mainOf(kind, many, form), api.ErrKind)
	want(t, "form, many", mainOf(form, many), api.ErrMany)
	want(t, "many, form", mainOf(many, form), api.ErrMany)
	want(t, "form, kind", mainOf(form, kind), api.ErrKind)
	m := mainOf(form)
	m.Name, m.Uses = "", repeat("?", api.MaxUses+1)
	want(t, "uses ahead of names", m, api.ErrMany)
	m.Decls = []api.Decl{{}}
	want(t, "kinds ahead of uses", m, api.ErrKind)
	m = api.Module{Name: "m", Procs: []api.Proc{{Name: "?", Params: repeat("?", api.MaxParams+1), Body: []api.Stmt{kind}}}}
	want(t, "kinds ahead of parameters", m, api.ErrKind)
	m.Procs[0].Body = nil
	want(t, "parameters ahead of names", m, api.ErrMany)
	want(t, "kind behind too many statements", mainOf(append(repeat(form, 100), kind)...), api.ErrKind)
	want(t, "kind of the last argument", mainOf(out(call("", append(repeat(num(-1), 100), api.Expr{})...))), api.ErrKind)
	want(t, "a zero module", api.Module{}, api.ErrForm)
}

// B2: kinds are looked at as deep as may be, and no deeper.
func TestCheckKindDeep(t *testing.T) {
	wrap := func(x api.Expr, deep int) api.Module {
		for range deep - 1 {
			x = expr(api.Not, x)
		}
		return mainOf(out(x))
	}
	for deep := 1; deep <= api.MaxDeep; deep++ {
		want(t, "expression", wrap(api.Expr{}, deep), api.ErrKind)
		want(t, "statement", mainOf(whiles(deep, api.Stmt{})...), api.ErrKind)
		want(t, "other statement", mainOf(elses(deep, api.Stmt{})...), api.ErrKind)
		want(t, "expression in a statement", mainOf(whiles(deep, out(nots(api.MaxDeep)), out(api.Expr{}))...), api.ErrKind)
	}
	for deep := api.MaxDeep + 1; deep < api.MaxDeep+4; deep++ {
		want(t, "expression", wrap(api.Expr{}, deep), api.ErrMany)
		want(t, "statement", mainOf(whiles(deep, api.Stmt{})...), api.ErrMany)
		want(t, "other statement", mainOf(elses(deep, api.Stmt{})...), api.ErrMany)
		want(t, "expression in a statement", mainOf(whiles(deep, out(api.Expr{}))...), api.ErrMany)
	}
	want(t, "kind beside what is too deep", mainOf(out(nots(api.MaxDeep+1)), api.Stmt{}), api.ErrKind)
}
