package tree

import (
	"strings"

	"bellwright/api"
)

// reader goes through tokens; where one is not as it must be, it panics.
type reader struct {
	toks []api.Tok
	at   int
}

// parsed tells false where the tokens are not as those of a module: reader panics there.
func parsed(l []api.Tok) (m api.Module, ok bool) {
	defer func() {
		if recover() != nil {
			m, ok = api.Module{}, false
		}
	}()
	r := reader{toks: l}
	m = r.module()
	if r.at < len(r.toks) {
		panic(api.ErrForm)
	}
	return m, true
}

// ahead tells the token so many places on; it has no Kind, if there is none.
func (r *reader) ahead(n int) api.Tok {
	if r.at+n >= len(r.toks) {
		return api.Tok{}
	}
	return r.toks[r.at+n]
}

func (r *reader) take() api.Tok {
	t := r.ahead(0)
	r.at++
	return t
}

// skip takes the next token, if it has that text.
func (r *reader) skip(text string) bool {
	if r.ahead(0).Text != text {
		return false
	}
	r.at++
	return true
}

// must takes the next token and tells its text: it must be one of these.
func (r *reader) must(texts ...string) string {
	for _, t := range texts {
		if r.skip(t) {
			return t
		}
	}
	panic(api.ErrForm)
}

func (r *reader) name() string {
	t := r.take()
	if t.Kind != api.Word || isKept(t.Text) {
		panic(api.ErrForm)
	}
	return t.Text
}

func (r *reader) number() int {
	t := r.take()
	if t.Kind != api.Number {
		panic(api.ErrForm)
	}
	return t.N
}

func (r *reader) module() api.Module {
	var m api.Module
	r.must("module")
	m.Name = r.name()
	r.must("{")
	for r.skip("use") {
		m.Uses = append(m.Uses, r.name())
		r.must(";")
	}
	for r.declAhead() {
		m.Decls = append(m.Decls, r.decl())
	}
	for !r.skip("main") {
		m.Procs = append(m.Procs, r.proc())
	}
	m.Main = r.block()
	r.must("}")
	return m
}

// declAhead looks behind pub, which may stand ahead of a procedure as well.
func (r *reader) declAhead() bool {
	t := r.ahead(0).Text
	if t == "pub" {
		t = r.ahead(1).Text
	}
	return t == "const" || t == "var" || t == "array"
}

func (r *reader) decl() api.Decl {
	d := api.Decl{Pub: r.skip("pub")}
	kind := r.must("const", "var", "array")
	d.Name = r.name()
	switch kind {
	case "const":
		d.Kind = api.Const
		r.must("=")
		d.N = r.number()
	case "var":
		d.Kind = api.Global
	case "array":
		d.Kind = api.Array
		r.must("[")
		d.N = r.number()
		r.must("]")
	}
	r.must(";")
	return d
}

func (r *reader) proc() api.Proc {
	p := api.Proc{Pub: r.skip("pub")}
	r.must("proc")
	p.Name = r.name()
	r.must("(")
	if !r.skip(")") {
		p.Params = append(p.Params, r.name())
		for r.must(",", ")") == "," {
			p.Params = append(p.Params, r.name())
		}
	}
	for r.skip("local") {
		p.Locals = append(p.Locals, r.name())
		r.must(";")
	}
	p.Body = r.block()
	return p
}

func (r *reader) block() []api.Stmt {
	var l []api.Stmt
	r.must("{")
	for !r.skip("}") {
		l = append(l, r.stmt())
	}
	return l
}

func (r *reader) stmt() api.Stmt {
	switch {
	case r.skip("if"):
		return r.branch()
	case r.skip("while"):
		s := api.Stmt{Op: api.While, Args: []api.Expr{r.expr()}}
		s.Body = r.block()
		return s
	case r.skip("return"):
		return r.ended(api.Stmt{Op: api.Return, Args: []api.Expr{r.expr()}})
	case r.skip("out"):
		return r.ended(api.Stmt{Op: api.Out, Args: []api.Expr{r.expr()}})
	}
	return r.ended(r.named())
}

func (r *reader) ended(s api.Stmt) api.Stmt {
	r.must(";")
	return s
}

func (r *reader) branch() api.Stmt {
	s := api.Stmt{Op: api.If, Args: []api.Expr{r.expr()}}
	s.Body = r.block()
	if r.skip("else") {
		s.Other = r.block()
		if len(s.Other) == 0 {
			panic(api.ErrForm)
		}
	}
	return s
}

// named reads a statement that begins with a name, but for its end.
func (r *reader) named() api.Stmt {
	var s api.Stmt
	s.Mod, s.Name = r.ref()
	switch r.must("=", "[", "(") {
	case "=":
		s.Op = api.Set
		s.Args = []api.Expr{r.expr()}
	case "[":
		s.Op = api.Put
		s.Args = []api.Expr{r.expr()}
		r.must("]")
		r.must("=")
		s.Args = append(s.Args, r.expr())
	case "(":
		s.Op = api.Do
		s.Args = r.args()
	}
	return s
}

func (r *reader) ref() (mod, name string) {
	name = r.name()
	if r.skip(".") {
		return name, r.name()
	}
	return "", name
}

// args reads arguments behind their opening bracket, and the closing one.
func (r *reader) args() []api.Expr {
	if r.skip(")") {
		return nil
	}
	l := []api.Expr{r.expr()}
	for r.must(",", ")") == "," {
		l = append(l, r.expr())
	}
	return l
}

func (r *reader) expr() api.Expr {
	switch {
	case r.ahead(0).Kind == api.Number:
		return api.Expr{Op: api.Num, N: r.number()}
	case r.skip("in"):
		return api.Expr{Op: api.In}
	case r.skip("!"):
		return api.Expr{Op: api.Not, Args: []api.Expr{r.expr()}}
	case r.skip("("):
		return r.pair()
	}
	x := api.Expr{Op: api.Var}
	x.Mod, x.Name = r.ref()
	switch {
	case r.skip("["):
		x.Op = api.Elem
		x.Args = []api.Expr{r.expr()}
		r.must("]")
	case r.skip("("):
		x.Op = api.Call
		x.Args = r.args()
	}
	return x
}

// pair reads an operation with two arguments behind its opening bracket, and the closing one.
func (r *reader) pair() api.Expr {
	first := r.expr()
	sign := r.must(strings.Split(opSigns, "")...)
	second := r.expr()
	r.must(")")
	return api.Expr{Op: api.And + strings.Index(opSigns, sign), Args: []api.Expr{first, second}}
}
