package tree

import (
	"strings"
	"testing"

	"bellwright/api"
)

// B3: what is shown, to the byte.
func TestShow(t *testing.T) {
	for _, c := range []struct {
		m    api.Module
		want string
	}{
		{mainOf(), "module m { main { } }"},
		{whole(), oneLine(wholeText)},
		{api.Module{Name: "m", Uses: []string{"a"}, Procs: []api.Proc{{Name: "p", Params: []string{"x", "y"}}}}, "module m { use a ; proc p ( x , y ) { } main { } }"},
		{mainOf(api.Stmt{Op: api.If, Args: []api.Expr{num(1)}, Other: []api.Stmt{}}), "module m { main { if 1 { } } }"},
	} {
		if s, e := Show(c.m); e != api.OK || s != c.want {
			t.Errorf("Show: %d\n%s\nmust be\n%s", e, s, c.want)
		}
	}
}

// wide tells a block with as many statements as may be, so many deep, each with both blocks.
func wide(deep int) []api.Stmt {
	l := repeat(out(num(1)), api.MaxBlock)
	for range deep - 1 {
		l = repeat(api.Stmt{Op: api.If, Args: []api.Expr{num(1)}, Body: l, Other: l}, api.MaxBlock)
	}
	return l
}

// B3: a module with more tokens than Show of chapter 1 shows is right, but not shown.
func TestShowMany(t *testing.T) {
	for n, want := range map[int]api.Errno{api.MaxText - 1: api.OK, api.MaxText: api.OK, api.MaxText + 1: api.ErrMany, api.MaxText + 2: api.ErrMany} {
		m := tokensOf(n)
		if e := Check(m); e != api.OK {
			t.Errorf("%d tokens: Check %d", n, e)
		}
		s, e := Show(m)
		if e != want || e == api.OK && len(strings.Fields(s)) != n || e != api.OK && s != "" {
			t.Errorf("%d tokens: %d bytes %d, must be %d", n, len(s), e, want)
		}
		if e == api.OK {
			fails(t, s, api.ErrMany) // too many bytes, so B4 does not hold of it
		}
	}
	m := mainOf(wide(4)...)
	m.Procs = repeat(api.Proc{Name: "p", Body: m.Main}, api.MaxProcs)
	if s, e := Show(m); s != "" || e != api.ErrMany || Check(m) != api.OK {
		t.Errorf("a great module: %d bytes %d", len(s), e)
	}
}

// tokensOf tells a right module that has so many tokens, somewhat more than 4069.
func tokensOf(n int) api.Module {
	while := func(l []api.Stmt) api.Stmt { return api.Stmt{Op: api.While, Args: []api.Expr{num(1)}, Body: l} }
	few := while(repeat(out(num(1)), 10)) // 34 tokens
	some := while(repeat(few, 10))        // 344 tokens
	m := mainOf(append(repeat(few, 8), some)...)
	m.Procs = []api.Proc{{Name: "p", Body: repeat(some, 10)}}
	left := n - 7 - (8*34 + 344) - (6 + 10*344)
	m.Decls = repeat(api.Decl{Kind: api.Global, Name: "v"}, left/3)
	for i := range left % 3 {
		m.Decls[i].Pub = true
	}
	return m
}
