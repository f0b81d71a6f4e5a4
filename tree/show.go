package tree

import "bellwright/api"

// writer gathers the tokens of a right module.
type writer struct {
	toks []api.Tok
}

func moduleTokens(m api.Module) []api.Tok {
	var w writer
	w.put("module", m.Name, "{")
	for _, u := range m.Uses {
		w.put("use", u, ";")
	}
	for _, d := range m.Decls {
		w.decl(d)
	}
	for _, p := range m.Procs {
		w.proc(p)
	}
	w.put("main")
	w.block(m.Main)
	w.put("}")
	return w.toks
}

// put puts words and signs: a right module's words all begin with a letter, which no sign is.
func (w *writer) put(texts ...string) {
	for _, t := range texts {
		kind := api.Sign
		if t[0] >= 'a' && t[0] <= 'z' {
			kind = api.Word
		}
		w.toks = append(w.toks, api.Tok{Kind: kind, Text: t})
	}
}

func (w *writer) number(n int) {
	w.toks = append(w.toks, api.Tok{Kind: api.Number, N: n})
}

// isFull tells that there are more tokens than are shown: a right module may have millions, and none of these is asked for then.
func (w *writer) isFull() bool {
	return len(w.toks) > api.MaxText
}

func (w *writer) pub(is bool) {
	if is {
		w.put("pub")
	}
}

func (w *writer) decl(d api.Decl) {
	w.pub(d.Pub)
	switch d.Kind {
	case api.Const:
		w.put("const", d.Name, "=")
		w.number(d.N)
	case api.Global:
		w.put("var", d.Name)
	case api.Array:
		w.put("array", d.Name, "[")
		w.number(d.N)
		w.put("]")
	}
	w.put(";")
}

func (w *writer) proc(p api.Proc) {
	w.pub(p.Pub)
	w.put("proc", p.Name, "(")
	for i, n := range p.Params {
		if i > 0 {
			w.put(",")
		}
		w.put(n)
	}
	w.put(")")
	for _, n := range p.Locals {
		w.put("local", n, ";")
	}
	w.block(p.Body)
}

func (w *writer) block(l []api.Stmt) {
	w.put("{")
	for _, s := range l {
		if w.isFull() {
			return
		}
		w.stmt(s)
	}
	w.put("}")
}

func (w *writer) stmt(s api.Stmt) {
	switch s.Op {
	case api.If:
		w.put("if")
		w.expr(s.Args[0])
		w.block(s.Body)
		if len(s.Other) > 0 {
			w.put("else")
			w.block(s.Other)
		}
	case api.While:
		w.put("while")
		w.expr(s.Args[0])
		w.block(s.Body)
	default:
		w.line(s)
		w.put(";")
	}
}

// line puts a statement without blocks, but for its end.
func (w *writer) line(s api.Stmt) {
	switch s.Op {
	case api.Set:
		w.ref(s.Mod, s.Name)
		w.put("=")
		w.expr(s.Args[0])
	case api.Put:
		w.ref(s.Mod, s.Name)
		w.index(s.Args[0])
		w.put("=")
		w.expr(s.Args[1])
	case api.Do:
		w.ref(s.Mod, s.Name)
		w.args(s.Args)
	case api.Return:
		w.put("return")
		w.expr(s.Args[0])
	case api.Out:
		w.put("out")
		w.expr(s.Args[0])
	}
}

func (w *writer) ref(mod, name string) {
	if mod != "" {
		w.put(mod, ".")
	}
	w.put(name)
}

func (w *writer) index(x api.Expr) {
	w.put("[")
	w.expr(x)
	w.put("]")
}

func (w *writer) args(l []api.Expr) {
	w.put("(")
	for i, x := range l {
		if i > 0 {
			w.put(",")
		}
		w.expr(x)
	}
	w.put(")")
}

func (w *writer) expr(x api.Expr) {
	switch x.Op {
	case api.Num:
		w.number(x.N)
	case api.In:
		w.put("in")
	case api.Var:
		w.ref(x.Mod, x.Name)
	case api.Elem:
		w.ref(x.Mod, x.Name)
		w.index(x.Args[0])
	case api.Call:
		w.ref(x.Mod, x.Name)
		w.args(x.Args)
	case api.Not:
		w.put("!")
		w.expr(x.Args[0])
	default:
		w.put("(")
		w.expr(x.Args[0])
		w.put(opSigns[x.Op-api.And : x.Op-api.And+1])
		w.expr(x.Args[1])
		w.put(")")
	}
}
