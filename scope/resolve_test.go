package scope

import (
	"testing"

	"bellwright/api"
)

// lib shows one of each kind.
func lib() api.Face {
	return api.Face{Name: "lib", Items: []api.Item{
		{Kind: api.Const, N: 12, Name: "k"},
		{Kind: api.Global, At: 5, Name: "v"},
		{Kind: api.Array, N: 7, At: 6, Name: "t"},
		{Kind: api.Routine, N: 2, At: 3, Name: "p"},
	}}
}

func empty() api.Face { return api.Face{Name: "nil0"} }

// own declares one of each kind, and has a procedure whose parameters and locals are x, y, i, j; rest stands in it, main behind.
func own(rest, main string) string {
	return "module m{use nil0;use lib;const k=3;var u;var v;array t[4];proc o(){}proc p(a){}proc q(x,y)local i;local j;{" + rest + "}main{" + main + "}}"
}

// C4: what each name becomes, in a procedure and in main.
func TestNames(t *testing.T) {
	one := []api.Node{num(1)}
	for _, c := range []struct {
		s    string
		want api.Act
	}{
		{"out k;", out(num(3))},
		{"out lib.k;", out(num(12))},
		{"out v;", out(api.Node{Op: api.Var, At: 1})},
		{"out lib.v;", out(api.Node{Op: api.Var, M: 2, At: 5})},
		{"out t[1];", out(api.Node{Op: api.Elem, N: 4, At: 2, Args: one})},
		{"out lib.t[1];", out(api.Node{Op: api.Elem, N: 7, M: 2, At: 6, Args: one})},
		{"out o();", out(api.Node{Op: api.Call})},
		{"out p(1);", out(api.Node{Op: api.Call, At: 1, Args: one})},
		{"out lib.p(1,2);", out(api.Node{Op: api.Call, M: 2, At: 3, Args: []api.Node{num(1), num(2)}})},
		{"u=1;", api.Act{Op: api.Set, Args: one}},
		{"v=1;", api.Act{Op: api.Set, At: 1, Args: one}},
		{"lib.v=1;", api.Act{Op: api.Set, M: 2, At: 5, Args: one}},
		{"t[1]=2;", api.Act{Op: api.Put, N: 4, At: 2, Args: []api.Node{num(1), num(2)}}},
		{"lib.t[1]=2;", api.Act{Op: api.Put, N: 7, M: 2, At: 6, Args: []api.Node{num(1), num(2)}}},
		{"o();", api.Act{Op: api.Do}},
		{"p(1);", api.Act{Op: api.Do, At: 1, Args: one}},
		{"lib.p(1,2);", api.Act{Op: api.Do, M: 2, At: 3, Args: []api.Node{num(1), num(2)}}},
		{"return 1;", api.Act{Op: api.Return, Args: one}},
		{"out in;", out(api.Node{Op: api.In})},
		{"out 1099511627775;", out(num(api.MaxNumber))},
		{"out!1;", out(api.Node{Op: api.Not, Args: one})},
	} {
		want := []api.Act{c.want}
		u := resolved(t, own(c.s, ""), empty(), lib())
		if !same(u.Parts[2].Body, want) || len(u.Main) != 0 {
			t.Errorf("%s in a procedure: %+v\nmust be %+v", c.s, u.Parts[2].Body, want)
		}
		u = resolved(t, own("", c.s), empty(), lib())
		if !same(u.Main, want) || len(u.Parts[2].Body) != 0 {
			t.Errorf("%s in main: %+v\nmust be %+v", c.s, u.Main, want)
		}
	}
}

// C4: parameters come first, and have numbers as locals do.
func TestLocals(t *testing.T) {
	u := resolved(t, own("out x;out y;out i;out j;x=1;y=1;i=1;j=1;", ""), empty(), lib())
	p := u.Parts[2]
	if p.Params != 2 || p.Locals != 2 || len(p.Body) != 8 {
		t.Fatalf("%+v", p)
	}
	for i := range 4 {
		if !same(p.Body[i], out(local(i))) || !same(p.Body[4+i], api.Act{Op: api.Set, M: -1, At: i, Args: []api.Node{num(1)}}) {
			t.Errorf("local %d: %+v %+v", i, p.Body[i], p.Body[4+i])
		}
	}
	// As many as there may be.
	u = resolved(t, "module m{proc p(a,b,c)local d;local e;local f;local g;{out g;}main{}}")
	if p := u.Parts[0]; p.Params != api.MaxParams || p.Locals != api.MaxLocals || !same(p.Body[0], out(local(6))) {
		t.Errorf("%+v", p)
	}
}

// C4: a parameter or local hides what the module declares, in its procedure alone, and not what is told with a module.
func TestHide(t *testing.T) {
	s := "module m{use lib;var u;const k=3;var v;array t[4];proc p(k)local v;local t;local lib;{out k;v=t;p=v;lib=lib;out lib.k;lib.v=1;out p(1);}proc q(){out k;}main{v=k;t[0]=1;}}"
	m := mod(t, s)
	wantResolve(t, "a procedure that is set", m, []api.Face{lib()}, api.ErrWrong)
	m.Procs[0].Body = append(m.Procs[0].Body[:2:2], m.Procs[0].Body[3:]...)
	u, e := Resolve(m, []api.Face{lib()})
	if e != api.OK {
		t.Fatalf("Resolve: %d", e)
	}
	if want := []api.Act{
		out(local(0)),
		{Op: api.Set, M: -1, At: 1, Args: []api.Node{local(2)}},
		{Op: api.Set, M: -1, At: 3, Args: []api.Node{local(3)}},
		out(num(12)),
		{Op: api.Set, M: 1, At: 5, Args: []api.Node{num(1)}},
		out(api.Node{Op: api.Call, Args: []api.Node{num(1)}}),
	}; !same(u.Parts[0].Body, want) {
		t.Errorf("the procedure: %+v\nmust be %+v", u.Parts[0].Body, want)
	}
	if want := []api.Act{out(num(3))}; !same(u.Parts[1].Body, want) {
		t.Errorf("the other procedure: %+v", u.Parts[1].Body)
	}
	if want := []api.Act{
		{Op: api.Set, At: 1, Args: []api.Node{num(3)}},
		{Op: api.Put, N: 4, At: 2, Args: []api.Node{num(0), num(1)}},
	}; !same(u.Main, want) {
		t.Errorf("main: %+v", u.Main)
	}
}

// C3, C4: what a unit has beside, and that statements and expressions lie in it as they did.
func TestUnit(t *testing.T) {
	u := resolved(t, "module m{use nil0;use lib;var v;proc p(a){if a{out 1;}else{out 2;return a;}}main{while((in&v)|(1<2)){if!in{v=((((1+2)-3)*4)/((5%6)=7));}}}}", empty(), lib())
	two := func(op int, a, b api.Node) api.Node { return api.Node{Op: op, Args: []api.Node{a, b}} }
	in, v := api.Node{Op: api.In}, api.Node{Op: api.Var}
	sum := two(api.Div, two(api.Mul, two(api.Sub, two(api.Add, num(1), num(2)), num(3)), num(4)), two(api.Eq, two(api.Rem, num(5), num(6)), num(7)))
	want := api.Unit{
		Name: "m", Uses: []string{"nil0", "lib"}, Data: 1,
		Parts: []api.Part{{Params: 1, Body: []api.Act{{Op: api.If, Args: []api.Node{local(0)}, Body: []api.Act{out(num(1))}, Other: []api.Act{out(num(2)), {Op: api.Return, Args: []api.Node{local(0)}}}}}}},
		Main: []api.Act{{Op: api.While, Args: []api.Node{two(api.Or, two(api.And, in, v), two(api.Less, num(1), num(2)))}, Body: []api.Act{
			{Op: api.If, Args: []api.Node{{Op: api.Not, Args: []api.Node{in}}}, Body: []api.Act{{Op: api.Set, Args: []api.Node{sum}}}},
		}}},
	}
	if !same(u, want) {
		t.Errorf("%+v\nmust be\n%+v", u, want)
	}
}

// C3: each error of a name, in a procedure and in main, however deep it lies.
func TestWrongNames(t *testing.T) {
	for s, want := range map[string]api.Errno{
		"out z;": api.ErrNone, "z=1;": api.ErrNone, "out z[0];": api.ErrNone, "z[0]=1;": api.ErrNone, "out z();": api.ErrNone, "z();": api.ErrNone,
		"out lib.z;": api.ErrNone, "lib.z=1;": api.ErrNone, "out lib.z[0];": api.ErrNone, "lib.z[0]=1;": api.ErrNone, "out lib.z();": api.ErrNone, "lib.z();": api.ErrNone,
		"out z.v;": api.ErrNone, "z.v=1;": api.ErrNone, "out z.t[0];": api.ErrNone, "z.t[0]=1;": api.ErrNone, "out z.p();": api.ErrNone, "z.p();": api.ErrNone,
		"out nil0.v;": api.ErrNone, "nil0.p(1);": api.ErrNone, "out m.v;": api.ErrNone, "m.p(1);": api.ErrNone, "out lib.u;": api.ErrNone, "out lib;": api.ErrNone, "out a;": api.ErrNone,
		"out t;": api.ErrWrong, "out p;": api.ErrWrong, "out lib.t;": api.ErrWrong, "out lib.p;": api.ErrWrong,
		"k=1;": api.ErrWrong, "t=1;": api.ErrWrong, "p=1;": api.ErrWrong, "lib.k=1;": api.ErrWrong, "lib.t=1;": api.ErrWrong, "lib.p=1;": api.ErrWrong,
		"out k[0];": api.ErrWrong, "out v[0];": api.ErrWrong, "out p[0];": api.ErrWrong, "out lib.k[0];": api.ErrWrong, "out lib.v[0];": api.ErrWrong, "out lib.p[0];": api.ErrWrong,
		"k[0]=1;": api.ErrWrong, "v[0]=1;": api.ErrWrong, "p[0]=1;": api.ErrWrong, "lib.k[0]=1;": api.ErrWrong, "lib.v[0]=1;": api.ErrWrong, "lib.p[0]=1;": api.ErrWrong,
		"out k(1);": api.ErrWrong, "out v(1);": api.ErrWrong, "out t(1);": api.ErrWrong, "out lib.k(1);": api.ErrWrong, "out lib.v(1);": api.ErrWrong, "out lib.t(1);": api.ErrWrong,
		"k(1);": api.ErrWrong, "v(1);": api.ErrWrong, "t(1);": api.ErrWrong, "lib.k(1);": api.ErrWrong, "lib.v(1);": api.ErrWrong, "lib.t(1);": api.ErrWrong,
		"out p();": api.ErrCount, "out p(1,2);": api.ErrCount, "out p(1,2,3);": api.ErrCount, "out o(1);": api.ErrCount, "out lib.p(1);": api.ErrCount, "out lib.p(1,2,3);": api.ErrCount, "out lib.p();": api.ErrCount,
		"p();": api.ErrCount, "p(1,2);": api.ErrCount, "p(1,2,3);": api.ErrCount, "o(1);": api.ErrCount, "lib.p(1);": api.ErrCount, "lib.p(1,2,3);": api.ErrCount, "lib.p();": api.ErrCount,
	} {
		for _, inner := range []string{s, "if 1{" + s + "}", "if 1{}else{" + s + "}", "while 1{while 0{" + s + "}}"} {
			wantResolve(t, inner, mod(t, own(inner, "")), []api.Face{empty(), lib()}, want)
			wantResolve(t, inner, mod(t, own("", inner)), []api.Face{empty(), lib()}, want)
		}
	}
	for s, want := range map[string]api.Errno{
		"out x[0];": api.ErrWrong, "x[0]=1;": api.ErrWrong, "out j(1);": api.ErrWrong, "j();": api.ErrWrong,
		"out q(1);": api.ErrCount, "out lib.x;": api.ErrNone, "out m.x;": api.ErrNone,
	} {
		wantResolve(t, s, mod(t, own(s, "")), []api.Face{empty(), lib()}, want)
	}
	// A procedure's names are none elsewhere.
	for _, s := range []string{"out x;", "j=1;", "y();"} {
		wantResolve(t, s, mod(t, own("", s)), []api.Face{empty(), lib()}, api.ErrNone)
		wantResolve(t, s, mod(t, "module m{proc p(x)local j;{}proc q(y){}proc r(){"+s+"}main{}}"), nil, api.ErrNone)
	}
}

// C3: as many numbers as a procedure has parameters, from none to MaxParams.
func TestHanded(t *testing.T) {
	args, params := []string{"", "1", "1,1", "1,1,1"}, []string{"", "a", "a,b", "a,b,c"}
	for i, p := range params {
		f := faceOf(t, "module l{pub proc f("+p+"){}main{}}")
		for j, a := range args {
			want := api.ErrCount
			if i == j {
				want = api.OK
			}
			for _, s := range []string{"f(" + a + ");", "out f(" + a + ");"} {
				wantResolve(t, s, mod(t, "module m{proc f("+p+"){}main{"+s+"}}"), nil, want)
			}
			for _, s := range []string{"l.f(" + a + ");", "out l.f(" + a + ");"} {
				wantResolve(t, s, mod(t, "module m{use l;main{"+s+"}}"), []api.Face{f}, want)
			}
		}
	}
}

// C3: two of a procedure's parameters and locals of one name.
func TestThereInProcedure(t *testing.T) {
	for _, s := range []string{"(a,a){}", "(a,b,a){}", "(a)local a;{}", "(a,b)local c;local b;{}", "()local c;local c;{}", "()local c;local d;local e;local c;{}"} {
		wantResolve(t, s, mod(t, "module m{proc p"+s+"main{}}"), nil, api.ErrThere)
	}
}

// C3: errors in their order: what is asked of the whole ahead of bodies, and in bodies what stands first.
func TestErrorOrder(t *testing.T) {
	b, c := api.Face{Name: "b"}, api.Face{Name: "c"}
	wrong := api.Face{Name: "b", Items: []api.Item{{}}}
	many := api.Face{Name: "b", Items: make([]api.Item, api.MaxDecls+api.MaxProcs+1)}
	for _, x := range []struct {
		s    string
		l    []api.Face
		want api.Errno
	}{
		// Face's, then how many faces, then whether they are right.
		{"module m{use b;use b;proc p(x,x){}main{out z;}}", nil, api.ErrThere},
		{"module m{use b;use b;main{}}", []api.Face{b}, api.ErrThere},
		{"module m{use b;var x;var x;main{}}", []api.Face{wrong, wrong}, api.ErrThere},
		{"module m{use b;main{out z;}}", nil, api.ErrCount},
		{"module m{use b;main{out z;}}", []api.Face{wrong, c}, api.ErrCount},
		{"module m{main{}}", []api.Face{b}, api.ErrCount},
		{"module m{use b;use c;proc p(x,x){}main{}}", []api.Face{b}, api.ErrCount},
		{"module m{use b;proc p(x,x){}main{}}", []api.Face{wrong}, api.ErrForm},
		{"module m{use b;proc p(x,x){}main{}}", []api.Face{many}, api.ErrForm},
		{"module m{use b;main{out z;}}", []api.Face{c}, api.ErrForm},
		{"module m{use b;main{}}", []api.Face{{}}, api.ErrForm},
		{"module m{use b;use c;main{out z;}}", []api.Face{c, b}, api.ErrForm},
		{"module m{use c;use b;main{out z;}}", []api.Face{c, wrong}, api.ErrForm},
		{"module m{use b;use c;main{out z;}}", []api.Face{b, c}, api.ErrNone},
		// Procedure by procedure, then main.
		{"module m{proc p(){out z;}proc q(x,x){}main{t();}}", nil, api.ErrNone},
		{"module m{proc p(x,x){out z;}main{}}", nil, api.ErrThere},
		{"module m{var t;proc p(){}proc q(){t();}main{out z;}}", nil, api.ErrWrong},
		{"module m{var t;proc p(){out z;}proc q(){t();}main{q(1);}}", nil, api.ErrNone},
		{"module m{var t;proc p(){p(1);}proc q(x,x){t();}main{out z;}}", nil, api.ErrCount},
		{"module m{var t;proc p(){}proc q(x)local x;{}main{out z;}}", nil, api.ErrThere},
		// Statements as they stand, each ahead of what lies in it.
		{"module m{var t;proc p(){}main{out t[0];out z;p(1);}}", nil, api.ErrWrong},
		{"module m{var t;proc p(){}main{out 1;p(1);out z;out t[0];}}", nil, api.ErrCount},
		{"module m{proc p(){}main{p(z);}}", nil, api.ErrCount},
		{"module m{proc p(){}main{out p(z);}}", nil, api.ErrCount},
		{"module m{var t;main{t(z);}}", nil, api.ErrWrong},
		{"module m{var t;main{out t(z);}}", nil, api.ErrWrong},
		{"module m{var t;main{z(t[0]);}}", nil, api.ErrNone},
		{"module m{var t;main{t[z]=z;}}", nil, api.ErrWrong},
		{"module m{var t;main{out t[z];}}", nil, api.ErrWrong},
		{"module m{const t=1;main{t=z;}}", nil, api.ErrWrong},
		{"module m{array t[1];proc p(){}main{t[p(1)]=z;}}", nil, api.ErrCount},
		{"module m{array t[1];proc p(){}main{t[z]=p(1);}}", nil, api.ErrNone},
		{"module m{array t[1];proc p(){}main{out(p(1)+z);}}", nil, api.ErrCount},
		{"module m{array t[1];proc p(){}main{out(z+p(1));}}", nil, api.ErrNone},
		{"module m{array t[1];proc p(a,b){}main{p(t,z);}}", nil, api.ErrWrong},
		{"module m{array t[1];proc p(a,b){}main{out((1+t)+z);}}", nil, api.ErrWrong},
		{"module m{array t[1];proc p(a,b){}main{out((1+2)+p(z));}}", nil, api.ErrCount},
		// A name that stands for nothing, or for something else, ahead of how many numbers it is handed.
		{"module m{use b;main{b.p(1);}}", []api.Face{{Name: "b", Items: []api.Item{{Kind: api.Global, Name: "p"}}}}, api.ErrWrong},
		// Expressions ahead of blocks, Body ahead of Other, and these ahead of what comes behind.
		{"module m{array t[1];main{if t{out z;}}}", nil, api.ErrWrong},
		{"module m{array t[1];main{while t{out z;}}}", nil, api.ErrWrong},
		{"module m{array t[1];proc p(){}main{if 1{p(1);}else{out z;}}}", nil, api.ErrCount},
		{"module m{array t[1];proc p(){}main{if 1{out z;}else{p(1);}}}", nil, api.ErrNone},
		{"module m{array t[1];proc p(){}main{if 1{}else{p(1);}out z;}}", nil, api.ErrCount},
		{"module m{array t[1];proc p(){}main{while 1{out t;}out z;}}", nil, api.ErrWrong},
		{"module m{array t[1];proc p(){}main{while 1{if 1{out 1;out t;}out z;}p(1);}}", nil, api.ErrWrong},
	} {
		wantResolve(t, x.s, mod(t, x.s), x.l, x.want)
	}
}

// C3: a face for each use, as many as there may be, M being the use's number.
func TestUses(t *testing.T) {
	var l []api.Face
	for i, name := range []string{"a", "b", "c"} {
		l = append(l, api.Face{Name: name, Items: []api.Item{{Kind: api.Global, At: i * 100, Name: "v"}}})
	}
	u := resolved(t, "module m{use a;use b;use c;main{out c.v;out a.v;b.v=1;}}", l...)
	if want := []api.Act{out(api.Node{Op: api.Var, M: 3, At: 200}), out(api.Node{Op: api.Var, M: 1}), {Op: api.Set, M: 2, At: 100, Args: []api.Node{num(1)}}}; !same(u.Main, want) || len(u.Uses) != api.MaxUses {
		t.Errorf("%+v", u)
	}
	// A face's items may have whatever is right, at its bounds too.
	full := api.Face{Name: "a", Items: []api.Item{{Kind: api.Array, N: api.MaxArray, At: api.MaxDecls * api.MaxArray, Name: "t"}, {Kind: api.Const, N: api.MaxNumber, Name: "k"}, {Kind: api.Routine, N: api.MaxParams, At: api.MaxDecls * api.MaxArray, Name: "p"}}}
	u = resolved(t, "module m{use a;main{a.t[a.k]=a.p(1,1,1);}}", full)
	if want := []api.Act{{Op: api.Put, N: 32, M: 1, At: 320, Args: []api.Node{num(api.MaxNumber), {Op: api.Call, M: 1, At: 320, Args: []api.Node{num(1), num(1), num(1)}}}}}; !same(u.Main, want) {
		t.Errorf("%+v", u)
	}
}

// C5: what a used module does not show is not seen.
func TestFacesAlone(t *testing.T) {
	user := "module m{use a;main{a.p(a.k);out a.t[a.v];}}"
	first := faceOf(t, "module a{pub const k=1;pub var v;pub array t[3];var w;pub proc p(x){}proc q(){}main{}}")
	second := faceOf(t, "module a{use b;pub const k=1;const l=5;pub var v;pub array t[3];array z[9];pub proc p(y)local g;{out g;b.h();}proc r(a,b){}main{out 1;}}")
	if !same(resolved(t, user, first), resolved(t, user, second)) {
		t.Error("something else than the face is seen")
	}
	for _, s := range []string{"out a.w;", "a.q();"} {
		wantResolve(t, s, mod(t, "module m{use a;main{"+s+"}}"), []api.Face{first}, api.ErrNone)
	}
	// Items' order, and items that are not asked for, make no difference.
	turned := api.Face{Name: "a", Items: []api.Item{first.Items[3], first.Items[1], {Kind: api.Const, Name: "more"}, first.Items[2], first.Items[0]}}
	if !same(resolved(t, user, first), resolved(t, user, turned)) {
		t.Error("the order of items is seen")
	}
}
