package scope

import (
	"strconv"
	"strings"
	"testing"

	"bellwright/api"
)

// The document's example: four items, five numbers.
const cnt = "module cnt{pub const k=3;pub var sum;pub array t[4];pub proc down(n)local i;{i=n;while i{sum=(sum+i);i=(i-1);}return sum;}main{}}"

// C1: an item for each declaration, then for each procedure, that is pub; what is not has its place all the same.
func TestFace(t *testing.T) {
	for _, c := range []struct {
		s    string
		want api.Face
	}{
		{"module a{main{}}", api.Face{Name: "a"}},
		{"module a{use b;const k=1;var v;array t[2];proc p(){}main{}}", api.Face{Name: "a"}},
		{cnt, api.Face{Name: "cnt", Items: []api.Item{
			{Kind: api.Const, N: 3, Name: "k"},
			{Kind: api.Global, At: 0, Name: "sum"},
			{Kind: api.Array, N: 4, At: 1, Name: "t"},
			{Kind: api.Routine, N: 1, At: 0, Name: "down"},
		}}},
		{"module a{var v;pub array t[32];const k=9;pub var w;array u[3];pub const l=0;pub array x[1];proc p(a,b){}pub proc q(a,b,c)local d;{}pub proc r(){}main{}}", api.Face{Name: "a", Items: []api.Item{
			{Kind: api.Array, N: 32, At: 1, Name: "t"},
			{Kind: api.Global, At: 33, Name: "w"},
			{Kind: api.Const, Name: "l"},
			{Kind: api.Array, N: 1, At: 37, Name: "x"},
			{Kind: api.Routine, N: 3, At: 1, Name: "q"},
			{Kind: api.Routine, At: 2, Name: "r"},
		}}},
		{"module a{pub const k=1099511627775;main{}}", api.Face{Name: "a", Items: []api.Item{{Kind: api.Const, N: api.MaxNumber, Name: "k"}}}},
	} {
		f, e := Face(mod(t, c.s))
		if e != api.OK || !same(f, c.want) {
			t.Errorf("Face of %s: %d\n%+v\nmust be\n%+v", c.s, e, f, c.want)
		}
		wantCheck(t, c.s, f, api.OK)
	}
}

// C1: numbers lie one behind the other, from 0 on, as many as the module needs.
func TestData(t *testing.T) {
	for s, want := range map[string]int{
		"module a{main{}}": 0,
		"module a{const k=7;proc p(a)local b;{}main{}}":      0,
		"module a{var v;main{}}":                             1,
		"module a{var v;array t[32];const k=5;var w;main{}}": 34,
		cnt: 5,
		"module a{" + decls("pub array", "[32]", api.MaxDecls) + "main{}}": api.MaxDecls * api.MaxArray,
	} {
		if u := resolved(t, s, usesOf(t, s)...); u.Data != want {
			t.Errorf("%s needs %d numbers, must be %d", s, u.Data, want)
		}
	}
	f := faceOf(t, "module a{"+decls("pub array", "[32]", api.MaxDecls)+"main{}}")
	for i, it := range f.Items {
		if it.At != i*api.MaxArray {
			t.Errorf("array %d lies at %d", i, it.At)
		}
	}
}

// decls tells n declarations.
func decls(kind, rest string, n int) string {
	var b strings.Builder
	for i := range n {
		b.WriteString(kind + " d" + strconv.Itoa(i) + rest + ";")
	}
	return b.String()
}

func procs(n int) string {
	var b strings.Builder
	for i := range n {
		b.WriteString("pub proc p" + strconv.Itoa(i) + "(a,b,c){}")
	}
	return b.String()
}

// usesOf tells faces without items for the uses of a text.
func usesOf(t *testing.T, s string) []api.Face {
	var l []api.Face
	for _, u := range mod(t, s).Uses {
		l = append(l, api.Face{Name: u})
	}
	return l
}

// C1, C2: as many items as there may be.
func TestFullFace(t *testing.T) {
	f := faceOf(t, "module a{"+decls("pub var", "", api.MaxDecls)+procs(api.MaxProcs)+"main{}}")
	if len(f.Items) != api.MaxDecls+api.MaxProcs {
		t.Errorf("%d items", len(f.Items))
	}
	wantCheck(t, "a full face", f, api.OK)
	f.Items = append(f.Items, api.Item{Kind: api.Const, Name: "more"})
	wantCheck(t, "a face with one item more", f, api.ErrMany)
}

// C1: two uses, or two of all declarations and procedures, of one name; pub or not.
func TestThere(t *testing.T) {
	for _, s := range []string{
		"module a{use b;use b;main{}}",
		"module a{use b;use c;use b;main{}}",
		"module a{var x;var x;main{}}",
		"module a{const x=1;array y[2];var x;main{}}",
		"module a{array x[1];pub array x[1];main{}}",
		"module a{var x;proc x(){}main{}}",
		"module a{pub const x=1;proc y(){}pub proc x(a){}main{}}",
		"module a{proc x(){}proc y(){}proc x(){}main{}}",
	} {
		m := mod(t, s)
		wantFace(t, m, api.ErrThere)
		wantResolve(t, s, m, usesOf(t, s), api.ErrThere)
	}
	for _, s := range []string{
		"module a{use b;var b;main{}}",
		"module a{use b;proc b(){}main{}}",
		"module a{pub var a;main{}}",
		"module a{pub proc a(){}main{}}",
		"module a{use a;main{}}",
		"module a{var x;proc p(x){}proc q(x)local y;{}proc y()local p;{}main{}}",
	} {
		wantFace(t, mod(t, s), api.OK)
		wantCheck(t, s, faceOf(t, s), api.OK)
		wantResolve(t, s, mod(t, s), usesOf(t, s), api.OK)
	}
	// Names inside a procedure are asked by Resolve alone.
	wantFace(t, mod(t, "module a{proc p(x,x){}main{out y;}}"), api.OK)
}

// C1: what chapter 2 asks comes first.
func TestTreeFirst(t *testing.T) {
	twice := "module a{use b;use b;var x;var x;proc p(y,y){}main{out z;}}"
	for _, c := range []struct {
		spoil func(m *api.Module)
		want  api.Errno
	}{
		{func(m *api.Module) { m.Main[0].Op = 8 }, api.ErrKind},
		{func(m *api.Module) { m.Decls[0].Kind = api.Routine }, api.ErrKind},
		{func(m *api.Module) { m.Uses = append(m.Uses, "c", "d") }, api.ErrMany},
		{func(m *api.Module) { m.Procs[0].Params = append(m.Procs[0].Params, "c", "d") }, api.ErrMany},
		{func(m *api.Module) { m.Name = "A" }, api.ErrForm},
		{func(m *api.Module) { m.Uses[0] = "in" }, api.ErrForm},
		{func(m *api.Module) { m.Decls[1].N = 1 }, api.ErrForm},
		{func(m *api.Module) {}, api.ErrThere},
	} {
		m := mod(t, twice)
		c.spoil(&m)
		wantFace(t, m, c.want)
		for _, l := range [][]api.Face{nil, {{}}, {{Name: "b"}, {Name: "b"}}} {
			wantResolve(t, twice, m, l, c.want)
		}
	}
	wantFace(t, api.Module{}, api.ErrForm)
	wantResolve(t, "nothing", api.Module{}, nil, api.ErrForm)
}

// one tells a face with one item.
func one(kind, n, at int) api.Face {
	return api.Face{Name: "a", Items: []api.Item{{Kind: kind, N: n, At: at, Name: "x"}}}
}

// C2: the bounds of an item, by its kind.
func TestCheckItem(t *testing.T) {
	const far = api.MaxDecls * api.MaxArray
	for kind, b := range map[int][3]int{ // least and most of N, most of At
		api.Const:   {0, api.MaxNumber, 0},
		api.Global:  {0, 0, far},
		api.Array:   {1, api.MaxArray, far},
		api.Routine: {0, api.MaxParams, far},
	} {
		for _, n := range []int{b[0] - 1, b[0], b[1], b[1] + 1} {
			for _, at := range []int{-1, 0, b[2], b[2] + 1} {
				want := api.ErrForm
				if n >= b[0] && n <= b[1] && at >= 0 && at <= b[2] {
					want = api.OK
				}
				if e := Check(one(kind, n, at)); e != want {
					t.Errorf("Kind %d, N %d, At %d: %d, must be %d", kind, n, at, e, want)
				}
			}
		}
	}
	for _, kind := range []int{-1 << 63, -1, 0, 5, 1<<63 - 1} {
		for n := range 2 {
			if e := Check(one(kind, n, 0)); e != api.ErrForm {
				t.Errorf("Kind %d: %d", kind, e)
			}
		}
	}
	for _, n := range []int{-1 << 63, 1<<63 - 1} {
		for kind := api.Const; kind <= api.Routine; kind++ {
			wantCheck(t, "a far N", one(kind, n, 0), api.ErrForm)
			wantCheck(t, "a far At", one(kind, 1, n), api.ErrForm)
		}
	}
}

// C2: names are those of chapter 1, so that words that texts need are names too.
func TestCheckNames(t *testing.T) {
	for name, want := range map[string]api.Errno{
		"a": api.OK, "z9": api.OK, "abcdefgh": api.OK, "in": api.OK, "module": api.OK,
		"": api.ErrForm, "A": api.ErrForm, "9a": api.ErrForm, "7": api.ErrForm, "abcdefghi": api.ErrForm, "a b": api.ErrForm, "a.b": api.ErrForm, "+": api.ErrForm, "ä": api.ErrForm, "a\x00": api.ErrForm,
	} {
		wantCheck(t, "the name "+name, api.Face{Name: name}, want)
		f := api.Face{Name: "f", Items: []api.Item{{Kind: api.Const, Name: "k"}, {Kind: api.Global, Name: name}}}
		wantCheck(t, "the item "+name, f, want)
	}
	f := api.Face{Name: "f", Items: []api.Item{{Kind: api.Const, Name: "k"}, {Kind: api.Global, Name: "l"}, {Kind: api.Global, Name: "k"}}}
	wantCheck(t, "two items of one name", f, api.ErrForm)
	f.Items[2].Name = "m"
	wantCheck(t, "three items", f, api.OK)
	f.Items[2].Name = "f"
	wantCheck(t, "an item of the face's name", f, api.OK)
}

// C2: how many comes first.
func TestCheckMany(t *testing.T) {
	const most = api.MaxDecls + api.MaxProcs
	wantCheck(t, "too many wrong items", api.Face{Items: make([]api.Item, most+1)}, api.ErrMany)
	wantCheck(t, "as many wrong items as may be", api.Face{Items: make([]api.Item, most)}, api.ErrForm)
	wantCheck(t, "far too many items", api.Face{Name: "a", Items: make([]api.Item, 1<<20)}, api.ErrMany)
	wantCheck(t, "nothing", api.Face{}, api.ErrForm)
}
