package tree

import (
	"strconv"
	"strings"
	"testing"

	"bellwright/api"
)

// parses asks for a text's module, and that it is shown by the same tokens (B4).
func parses(t *testing.T, s string, want api.Module) {
	t.Helper()
	m, e := Parse(s)
	if e != api.OK || !same(m, want) {
		t.Errorf("Parse of %.90q: %d %+v, must be %+v", s, e, m, want)
		return
	}
	if shown, e := Show(m); e != api.OK || strings.Join(strings.Fields(shown), "") != strings.Join(strings.Fields(s), "") {
		t.Errorf("%q is shown as %q %d", s, shown, e)
	}
}

// fails asks for an error, and that nothing comes with it (P1).
func fails(t *testing.T, s string, want api.Errno) {
	t.Helper()
	if m, e := Parse(s); e != want || !isZero(m) {
		t.Errorf("Parse of %.90q: %d %+v, must be %d", s, e, m, want)
	}
}

// B1, B3: each form of the text.
func TestParse(t *testing.T) {
	parses(t, wholeText, whole())
	parses(t, "module m{main{}}", mainOf())
	parses(t, "\n module\nm\n{ main {\n} }\n", mainOf())
	x, y := name("x"), name("y")
	for _, c := range []struct {
		s    string
		want api.Stmt
	}{
		{"x=y;", set("x", y)},
		{"x[1]=y;", api.Stmt{Op: api.Put, Name: "x", Args: []api.Expr{num(1), y}}},
		{"x();", api.Stmt{Op: api.Do, Name: "x"}},
		{"x(y,1);", api.Stmt{Op: api.Do, Name: "x", Args: []api.Expr{y, num(1)}}},
		{"a.x(y);", api.Stmt{Op: api.Do, Mod: "a", Name: "x", Args: []api.Expr{y}}},
		{"if x{}", stmt(api.If, x)},
		{"if x{out y;}", api.Stmt{Op: api.If, Args: []api.Expr{x}, Body: []api.Stmt{out(y)}}},
		{"if x{}else{out y;}", api.Stmt{Op: api.If, Args: []api.Expr{x}, Other: []api.Stmt{out(y)}}},
		{"if x{out x;}else{out y;}", api.Stmt{Op: api.If, Args: []api.Expr{x}, Body: []api.Stmt{out(x)}, Other: []api.Stmt{out(y)}}},
		{"while x{}", stmt(api.While, x)},
		{"while(x<y){out y;out x;}", api.Stmt{Op: api.While, Args: []api.Expr{expr(api.Less, x, y)}, Body: []api.Stmt{out(y), out(x)}}},
		{"return x;", stmt(api.Return, x)},
		{"out in;", out(expr(api.In))},
		{"out 0;", out(num(0))},
		{"out a.x;", out(api.Expr{Op: api.Var, Mod: "a", Name: "x"})},
		{"out x[y];", out(api.Expr{Op: api.Elem, Name: "x", Args: []api.Expr{y}})},
		{"out a.x[y[x]];", out(api.Expr{Op: api.Elem, Mod: "a", Name: "x", Args: []api.Expr{{Op: api.Elem, Name: "y", Args: []api.Expr{x}}}})},
		{"out x();", out(call("x"))},
		{"out a.x(x,y,1);", out(api.Expr{Op: api.Call, Mod: "a", Name: "x", Args: []api.Expr{x, y, num(1)}})},
		{"out!x;", out(expr(api.Not, x))},
		{"out!!x;", out(expr(api.Not, expr(api.Not, x)))},
		{"out!x();", out(expr(api.Not, call("x")))},
		{"out((1-2)-3);", out(expr(api.Sub, expr(api.Sub, num(1), num(2)), num(3)))},
		{"out(1-(2-3));", out(expr(api.Sub, num(1), expr(api.Sub, num(2), num(3))))},
		{"out(!1-!2);", out(expr(api.Sub, expr(api.Not, num(1)), expr(api.Not, num(2))))},
		{"out!(1-2);", out(expr(api.Not, expr(api.Sub, num(1), num(2))))},
		{"out(x=y);", out(expr(api.Eq, x, y))},
		{"x=(x=y);", set("x", expr(api.Eq, x, y))},
	} {
		parses(t, "module m{main{"+c.s+"}}", mainOf(c.want))
		parses(t, "module m{proc p(){"+c.s+c.s+"}main{}}", api.Module{Name: "m", Procs: []api.Proc{{Name: "p", Body: []api.Stmt{c.want, c.want}}}})
	}
	for i, s := range strings.Fields("& | + - * / % = <") {
		parses(t, "module m{main{out(x"+s+"y);}}", mainOf(out(expr(api.And+i, x, y))))
	}
}

// B1: what is no module.
func TestParseWrong(t *testing.T) {
	for _, s := range []string{
		"", " ", "x", "module", "module m", "module m {", "module m { }", "module m { main }", "module m { main {", "module m { main { }",
		"module m { main { } } }", "module m { main { } } x", "module m { main { } } 1", "module m { main { } } module m { main { } }",
		"m { main { } }", "mod m { main { } }", "module 1 { main { } }", "module { main { } }", "module m m { main { } }", "module m ( main { } )",
		"module m { main { } main { } }", "main { }", "module m { main { } ; }", "module m { main ; }", "module m { main { } x }", "module m { Main { } }", "module m { main { ? } }",
		"module m { main { } proc p ( ) { } }", "module m { main { } var x ; }", "module m { main { } use x ; }",
	} {
		fails(t, s, api.ErrForm)
	}
	for _, s := range []string{
		"use ;", "use a", "use a , b ;", "use a b ;", "use 1 ;", "use a . b ;", "pub use a ;", "uses a ;",
		"var x ; use a ;", "proc p ( ) { } use a ;", "proc p ( ) { } var x ;", "proc p ( ) { } pub const k = 1 ;",
		"var ;", "var x", "var x = 1 ;", "var x , y ;", "var 1 ;", "pub pub var x ;", "pub x ;", "pub", "pub ;", "var pub x ;", "vars x ;",
		"const k ;", "const k = ;", "const k = x ;", "const k = - 1 ;", "const k = 1", "const k 1 ;", "const = 1 ;", "const k = 1 1 ;", "const k = ( 1 + 1 ) ;",
		"const k = 1099511627776 ;", "array t ;", "array t [ ] ;", "array t [ x ] ;", "array t [ 1 ;", "array t 1 ] ;", "array t [ 1 ]", "array [ 1 ] ;", "array t ( 1 ) ;", "array t [ 1 ] [ 1 ] ;",
		"proc p { }", "proc p ( { }", "proc p ) { }", "proc ( ) { }", "proc p ( ) ;", "proc p ( )", "proc p ( , ) { }", "proc p ( a , ) { }", "proc p ( , a ) { }", "proc p ( a b ) { }", "proc p ( a ; b ) { }", "proc p ( 1 ) { }", "proc p ( a . b ) { }",
		"proc p ( a , , b ) { }", "proc p ( ) local ; { }", "proc p ( ) local a { }", "proc p ( ) local a , b ; { }", "local a ;", "proc p ( ) { local a ; }", "proc p ( ) var a ; { }", "proc p ( ) { } ;", "proc p ( ) local 1 ; { }",
		"pub proc p ( ) pub local a ; { }", "proc pub p ( ) { }", "pub pub proc p ( ) { }", "out 1 ;",
	} {
		fails(t, "module m { "+s+" main { } }", api.ErrForm)
	}
	for _, s := range []string{
		";", "x ;", "x", "x = ;", "x = 1", "= 1 ;", "1 = x ;", "x = 1 ; ;", "x = y = 1 ;", "x . = 1 ;", ". x = 1 ;", "a . b . c = 1 ;", "x = a . b . c ;", "x == 1 ;", "x < 1 ;", "1 . x = 1 ;", "x . 1 = 1 ;",
		"x [ ] = 1 ;", "x [ 1 ] ;", "x [ 1 = 1 ;", "x 1 ] = 1 ;", "x [ 1 ] = ;", "x [ 1 , 2 ] = 1 ;", "x [ 1 ] [ 2 ] = 1 ;", "x [ 1 ] = 1", "x ( 1 ] = 1 ;", "x ( 1 ) = 1 ;",
		"x ( ;", "x ( )", "x ) ;", "x ( , ) ;", "x ( 1 , ) ;", "x ( , 1 ) ;", "x ( 1 2 ) ;", "x ( 1 ; 2 ) ;", "x ( 1 , , 2 ) ;", "x ( ) ( ) ;", "x ( 1 ;",
		"if { }", "if 1", "if 1 ;", "if 1 out 1 ;", "if 1 { } ;", "if 1 { } else", "if 1 { } else ;", "if 1 { } else { }", "if 1 { out 1 ; } else { }", "if 1 { } else if 1 { }", "else { out 1 ; }", "if 1 { } else { out 1 ; } else { out 1 ; }", "if 1 2 { }", "if 1 {", "if 1 { } else { out 1 ;",
		"while { }", "while 1", "while 1 ;", "while 1 { } ;", "while 1 { } else { out 1 ; }", "while 1 {",
		"return ;", "return", "return 1", "return 1 2 ;", "return 1 , 2 ;", "out ;", "out 1", "out 1 , 2 ;", "out", "out = 1 ;",
		"{ }", "{ out 1 ; }", "in = 1 ;", "in ( ) ;", "main { }", "local x ;", "var x ;", "! x ;", "( 1 + 2 ) ;", "1 ;",
		"out ( ) ;", "out ( 1 ) ;", "out ( x ) ;", "out ( 1 + ) ;", "out ( + 1 ) ;", "out ( 1 + 2 ;", "out 1 + 2 ) ;", "out 1 + 2 ;", "out ( 1 + 2 + 3 ) ;", "out ( 1 2 ) ;", "out ( 1 ! 2 ) ;", "out ( 1 , 2 ) ;", "out ( 1 . 2 ) ;", "out ( 1 ; 2 ) ;", "out ( 1 ( 2 ) ;", "out ( 1 { 2 ) ;", "out ( 1 [ 2 ) ;", "out ( 1 == 2 ) ;", "out ( 1 && 2 ) ;", "out ( 1 x 2 ) ;", "out [ 1 + 2 ] ;", "out ( 1 + 2 ] ;",
		"out - 1 ;", "out ! ;", "out 1 ! ;", "out in . x ;", "out in [ 1 ] ;", "out in ( ) ;", "out x . in ;", "out x . ;", "out . x ;", "out 1 [ 2 ] ;", "out 1 ( ) ;", "out x [ ] ;", "out x [ 1 ;", "out x [ 1 , 2 ] ;", "out x ( 1 ;", "out x ( 1 , ) ;", "out x [ 1 ] ( ) ;", "out x ( ) [ 1 ] ;", "out x y ;", "out if ;", "out { } ;", "out * ;",
	} {
		fails(t, "module m { main { "+s+" } }", api.ErrForm)
		fails(t, "module m { main { out 1 ; "+s+" } }", api.ErrForm)
		fails(t, "module m { proc p ( ) { "+s+" } main { } }", api.ErrForm)
	}
}

// B1: a module as text with one word at each place where a name may be.
func namePlaces(s string) []string {
	var l []string
	for _, p := range []string{
		"module # { main { } }", "module m { use # ; main { } }", "module m { const # = 1 ; main { } }", "module m { var # ; main { } }", "module m { array # [ 1 ] ; main { } }",
		"module m { proc # ( ) { } main { } }", "module m { proc p ( # ) { } main { } }", "module m { proc p ( a , # ) { } main { } }", "module m { proc p ( ) local # ; { } main { } }",
		"module m { main { # = 1 ; } }", "module m { main { # . x = 1 ; } }", "module m { main { x . # = 1 ; } }", "module m { main { # [ 1 ] = 1 ; } }", "module m { main { # ( ) ; } }", "module m { main { a . # ( ) ; } }",
		"module m { main { out # [ 1 ] ; } }", "module m { main { out # ( ) ; } }", "module m { main { out # . x ; } }", "module m { main { out x . # ; } }",
	} {
		l = append(l, strings.ReplaceAll(p, "#", s))
	}
	return l
}

// B1: kept words are no names anywhere; words that begin like them are.
func TestParseNames(t *testing.T) {
	for _, w := range strings.Fields(keptWords + " 1 abcdefghi A + 1a") {
		for _, s := range namePlaces(w) {
			fails(t, s, api.ErrForm)
		}
	}
	for _, w := range []string{"a", "abcdefgh", "ins", "pub1", "modul", "x9"} {
		for _, s := range namePlaces(w) {
			if _, e := Parse(s); e != api.OK {
				t.Errorf("Parse of %q: %d", s, e)
			}
		}
	}
}

// textOf shows a module by hand of the test, whether it is right or not.
func textOf(m api.Module) string {
	return lexText(moduleTokens(m))
}

func lexText(l []api.Tok) string {
	var b strings.Builder
	for _, t := range l {
		if t.Kind == api.Number {
			b.WriteString(strconv.Itoa(t.N))
		}
		b.WriteString(t.Text + " ")
	}
	return b.String()
}

// B3: what has too many of something has no right module: that is ErrForm, of a text.
func TestParseLimits(t *testing.T) {
	for what, make := range manyAt() {
		n := limitOf(what)
		if m, e := Parse(textOf(make(n))); e != api.OK || !same(m, make(n)) {
			t.Errorf("%s at the limit: %d", what, e)
		}
		fails(t, textOf(make(n+1)), api.ErrForm)
		fails(t, textOf(make(n+9)), api.ErrForm)
	}
	parses(t, "module abcdefgh { const k = 1099511627775 ; array t [ 1 ] ; array u [ 32 ] ; main { } }", api.Module{Name: "abcdefgh", Decls: []api.Decl{{Kind: api.Const, Name: "k", N: api.MaxNumber}, {Kind: api.Array, Name: "t", N: 1}, {Kind: api.Array, Name: "u", N: api.MaxArray}}})
	for _, s := range []string{"array t [ 0 ] ;", "array t [ 33 ] ;", "array t [ 1099511627775 ] ;", "const k = 1099511627776 ;", "const k = 01 ;"} {
		fails(t, "module m { "+s+" main { } }", api.ErrForm)
	}
}

// B3: how many bytes there may be, and that this is asked first.
func TestParseMany(t *testing.T) {
	s := "module m { main { } }"
	full := s + strings.Repeat(" ", api.MaxText-len(s))
	parses(t, full, mainOf())
	fails(t, full+" ", api.ErrMany)
	fails(t, full+"?", api.ErrMany)
	fails(t, strings.Repeat("?", api.MaxText), api.ErrForm)
	fails(t, strings.Repeat("?", api.MaxText+1), api.ErrMany)
	fails(t, strings.Repeat("module ", 1<<16), api.ErrMany)
}

// P1: texts that go as deep as they can end all the same.
func TestParseDeep(t *testing.T) {
	for _, begin := range []string{"module m{main{out ", "module m{proc p(){x="} {
		for _, s := range []string{"!", "(", "x[", "x(", "a.b(", "!(", "(1+", "x(1,"} {
			fails(t, begin+strings.Repeat(s, (api.MaxText-len(begin))/len(s)), api.ErrForm)
		}
	}
	for _, s := range []string{"while 1{", "if 1{", "if 1{}else{"} {
		fails(t, "module m{main{"+strings.Repeat(s, 4000/len(s)), api.ErrForm)
	}
	fails(t, "module m{main{out "+strings.Repeat("!", 4000)+"1;}}", api.ErrForm)
	fails(t, "module m{main{"+strings.Repeat("while 1{", 400)+strings.Repeat("}", 402), api.ErrForm)
}
