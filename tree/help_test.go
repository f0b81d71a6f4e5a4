package tree

import (
	"fmt"
	"reflect"
	"slices"
	"strings"
	"testing"

	"bellwright/api"
	"bellwright/lex"
)

func num(n int) api.Expr { return api.Expr{Op: api.Num, N: n} }

func name(s string) api.Expr { return api.Expr{Op: api.Var, Name: s} }

func expr(op int, args ...api.Expr) api.Expr { return api.Expr{Op: op, Args: args} }

func call(s string, args ...api.Expr) api.Expr {
	return api.Expr{Op: api.Call, Name: s, Args: args}
}

func stmt(op int, args ...api.Expr) api.Stmt { return api.Stmt{Op: op, Args: args} }

func set(s string, x api.Expr) api.Stmt {
	return api.Stmt{Op: api.Set, Name: s, Args: []api.Expr{x}}
}

func out(x api.Expr) api.Stmt { return stmt(api.Out, x) }

// mainOf tells a module of which nothing is there but these statements.
func mainOf(l ...api.Stmt) api.Module { return api.Module{Name: "m", Main: l} }

// nots tells an expression that is so many deep.
func nots(deep int) api.Expr {
	x := num(1)
	for range deep - 1 {
		x = expr(api.Not, x)
	}
	return x
}

// whiles tells a block of which so many lie in one another; the innermost one has these statements.
func whiles(deep int, inner ...api.Stmt) []api.Stmt {
	for range deep - 1 {
		inner = []api.Stmt{{Op: api.While, Args: []api.Expr{num(1)}, Body: inner}}
	}
	return inner
}

func repeat[T any](x T, n int) []T { return slices.Repeat([]T{x}, n) }

// same holds modules against each other, of which an empty list may be nil or not.
func same(a, b api.Module) bool {
	return fmt.Sprintf("%+v", a) == fmt.Sprintf("%+v", b)
}

func isZero(m api.Module) bool { return same(m, api.Module{}) }

func mustLex(t *testing.T, s string) []api.Tok {
	t.Helper()
	l, e := lex.Lex(s)
	if e != api.OK {
		t.Fatalf("%.60q has no tokens: %d", s, e)
	}
	return l
}

// whole tells a module that has one of each thing.
func whole() api.Module {
	return api.Module{
		Name: "m",
		Uses: []string{"a", "b"},
		Decls: []api.Decl{
			{Kind: api.Const, Name: "k", N: 7},
			{Kind: api.Const, Name: "l", Pub: true},
			{Kind: api.Global, Name: "v"},
			{Kind: api.Global, Name: "w", Pub: true},
			{Kind: api.Array, Name: "t", N: 1},
			{Kind: api.Array, Name: "u", Pub: true, N: 32},
		},
		Procs: []api.Proc{
			{Name: "p"},
			{Name: "q", Pub: true, Params: []string{"x"}, Locals: []string{"y"}, Body: []api.Stmt{stmt(api.Return, name("x"))}},
			{Name: "r", Params: []string{"x", "y", "z"}, Locals: []string{"c", "d", "e", "f"}},
		},
		Main: []api.Stmt{
			set("v", num(1)),
			{Op: api.Set, Mod: "a", Name: "v", Args: []api.Expr{expr(api.In)}},
			{Op: api.Put, Name: "t", Args: []api.Expr{num(2), num(3)}},
			{Op: api.Put, Mod: "a", Name: "t", Args: []api.Expr{name("v"), {Op: api.Var, Mod: "b", Name: "v"}}},
			{Op: api.Do, Name: "p"},
			{Op: api.Do, Mod: "b", Name: "p", Args: []api.Expr{num(1), call("p"), call("q", num(4), num(5))}},
			{Op: api.If, Args: []api.Expr{{Op: api.Elem, Name: "t", Args: []api.Expr{num(0)}}}, Body: []api.Stmt{out(num(0))}},
			{Op: api.If, Args: []api.Expr{{Op: api.Elem, Mod: "a", Name: "t", Args: []api.Expr{num(0)}}}, Other: []api.Stmt{stmt(api.Return, num(0))}},
			{Op: api.While, Args: []api.Expr{expr(api.Less, expr(api.And, num(1), num(2)), expr(api.Or, num(3), num(4)))},
				Body: []api.Stmt{out(expr(api.Add, num(1), num(2))), out(expr(api.Sub, num(1), num(2))), out(expr(api.Mul, num(1), num(2))), out(expr(api.Div, num(1), num(2))), out(expr(api.Rem, num(1), num(2))), out(expr(api.Eq, num(1), num(2)))}},
			out(expr(api.Not, api.Expr{Op: api.Call, Mod: "b", Name: "q", Args: []api.Expr{num(api.MaxNumber)}})),
		},
	}
}

// wholeText is what whole is shown as, but for line feeds.
const wholeText = `module m {
 use a ; use b ;
 const k = 7 ; pub const l = 0 ; var v ; pub var w ; array t [ 1 ] ; pub array u [ 32 ] ;
 proc p ( ) { }
 pub proc q ( x ) local y ; { return x ; }
 proc r ( x , y , z ) local c ; local d ; local e ; local f ; { }
 main {
 v = 1 ;
 a . v = in ;
 t [ 2 ] = 3 ;
 a . t [ v ] = b . v ;
 p ( ) ;
 b . p ( 1 , p ( ) , q ( 4 , 5 ) ) ;
 if t [ 0 ] { out 0 ; }
 if a . t [ 0 ] { } else { return 0 ; }
 while ( ( 1 & 2 ) < ( 3 | 4 ) ) { out ( 1 + 2 ) ; out ( 1 - 2 ) ; out ( 1 * 2 ) ; out ( 1 / 2 ) ; out ( 1 % 2 ) ; out ( 1 = 2 ) ; }
 out ! b . q ( 1099511627775 ) ;
 } }`

func oneLine(s string) string { return strings.ReplaceAll(s, "\n", "") }

// spans gathers where the lists of a value lie, with their spare room.
func spans(v reflect.Value, l [][2]uintptr) [][2]uintptr {
	switch v.Kind() {
	case reflect.Slice:
		if v.Cap() > 0 {
			l = append(l, [2]uintptr{v.Pointer(), v.Pointer() + uintptr(v.Cap())*v.Type().Elem().Size()})
		}
		for i := range v.Len() {
			l = spans(v.Index(i), l)
		}
	case reflect.Struct:
		for i := range v.NumField() {
			l = spans(v.Field(i), l)
		}
	}
	return l
}

func overlap(l [][2]uintptr) bool {
	slices.SortFunc(l, func(a, b [2]uintptr) int {
		return int(int64(a[0]) - int64(b[0]))
	})
	for i := 1; i < len(l); i++ {
		if l[i][0] < l[i-1][1] {
			return true
		}
	}
	return false
}
