package order_test

import (
	"fmt"
	"slices"
	"strings"
	"testing"

	"bellwright/api"
	"bellwright/order"
	"bellwright/tree"
)

// K1: chains, diamonds, and names that rise by their bytes, in whatever order the modules are handed in.
func TestSort(t *testing.T) {
	for _, c := range []struct{ mods, want []string }{
		{[]string{}, nil},
		{[]string{"a"}, []string{"a"}},
		{[]string{"c b a", "b a", "a"}, []string{"a", "b", "c"}},
		{[]string{"a b", "b c", "c d", "d"}, []string{"d", "c", "b", "a"}},
		{[]string{"a", "b a", "c b", "d c"}, []string{"a", "b", "c", "d"}},
		{[]string{"a", "b a", "c a", "d b c"}, []string{"a", "b", "c", "d"}},
		{[]string{"d", "b d", "c d", "a c b"}, []string{"d", "b", "c", "a"}},
		{[]string{"a", "b", "c", "d"}, []string{"a", "b", "c", "d"}},
		{[]string{"b", "a b", "c a b", "d c"}, []string{"b", "a", "c", "d"}},
		{[]string{"a d", "b", "c", "d"}, []string{"b", "c", "d", "a"}},   // a is free last
		{[]string{"a c", "b", "c", "d"}, []string{"b", "c", "a", "d"}},   // a is free ahead of d, though d was free all along
		{[]string{"a b", "b", "c d", "d"}, []string{"b", "a", "d", "c"}}, // two chains
		{[]string{"z", "y", "z1", "za"}, []string{"y", "z", "z1", "za"}},
		{[]string{"aa", "b", "a1", "a"}, []string{"a", "a1", "aa", "b"}},
		{[]string{"b2", "b10", "b", "ab"}, []string{"ab", "b", "b10", "b2"}},
		{[]string{"abcdefgh", "abcdefg", "zzzzzzzz", "abcdefgi"}, []string{"abcdefg", "abcdefgh", "abcdefgi", "zzzzzzzz"}},
		{[]string{"b a a a", "a"}, []string{"a", "b"}}, // a use that is told thrice
	} {
		for _, turn := range orders(len(c.mods)) {
			var l []api.Module
			for _, i := range turn {
				l = append(l, mods(c.mods[i])...)
			}
			got, e := order.Sort(l)
			if e != api.OK || !slices.Equal(names(l, got), c.want) {
				t.Errorf("Sort of %v: %v %d, must be %v", l, names(l, got), e, c.want)
			}
		}
	}
}

// K1: the numbers are those of the list that was handed in.
func TestNumbers(t *testing.T) {
	got, e := order.Sort(mods("c b a", "d", "a", "b a"))
	if e != api.OK || !slices.Equal(got, []int{2, 3, 0, 1}) {
		t.Errorf("%v %d", got, e)
	}
}

// K1: there is no order.
func TestRound(t *testing.T) {
	for _, l := range [][]string{
		{"a a"}, {"a b", "b a"}, {"a b", "b c", "c a"}, {"a b", "b c", "c d", "d a"},
		{"a", "b b"}, {"b", "a a b"}, // itself, beside one that is right
		{"a b", "b c", "c b"}, {"b a", "c b", "a a"}, {"a", "b a c", "c a b", "d b"}, // one that needs such
		{"a b", "b a", "c", "d c"}, {"c", "d c", "a b c", "b a"},
	} {
		for _, turn := range orders(len(l)) {
			var m []api.Module
			for _, i := range turn {
				m = append(m, mods(l[i])...)
			}
			if got, e := order.Sort(m); e != api.ErrRound || len(got) > 0 {
				t.Errorf("Sort of %v: %v %d", m, got, e)
			}
		}
	}
}

// K2: what one needs, and they need.
func TestNeeds(t *testing.T) {
	for _, c := range []struct {
		mods []string
		name string
		want []string
	}{
		{[]string{"a"}, "a", nil},
		{[]string{"c b a", "b a", "a"}, "c", []string{"a", "b"}},
		{[]string{"c b a", "b a", "a"}, "b", []string{"a"}},
		{[]string{"c b a", "b a", "a"}, "a", nil},
		{[]string{"a b", "b c", "c d", "d"}, "a", []string{"b", "c", "d"}},
		{[]string{"a b", "b c", "c d", "d"}, "c", []string{"d"}},
		{[]string{"a", "b a", "c a", "d c b"}, "d", []string{"a", "b", "c"}},
		{[]string{"m z a b", "z", "a", "b"}, "m", []string{"a", "b", "z"}}, // they rise, whatever the uses' order
		{[]string{"m b2 b10 b", "b2", "b10", "b"}, "m", []string{"b", "b10", "b2"}},
		{[]string{"b a a a", "a"}, "b", []string{"a"}},
		{[]string{"a", "b"}, "b", nil},
		{[]string{"a a"}, "a", []string{"a"}}, // those that use one another need themselves
		{[]string{"a b", "b a"}, "a", []string{"a", "b"}},
		{[]string{"a b", "b c", "c b"}, "a", []string{"b", "c"}},
		{[]string{"a b", "b c", "c b", "d"}, "d", nil},
	} {
		for _, turn := range orders(len(c.mods)) {
			var l []api.Module
			for _, i := range turn {
				l = append(l, mods(c.mods[i])...)
			}
			got, e := order.Needs(l, c.name)
			if e != api.OK || !slices.Equal(got, c.want) {
				t.Errorf("Needs of %v, %s: %v %d, must be %v", l, c.name, got, e, c.want)
			}
		}
	}
}

// K2: a name that is no module's.
func TestNoName(t *testing.T) {
	for _, l := range [][]api.Module{nil, mods("a"), mods("b a", "a"), mods("a b", "b a"), mods("a a")} {
		for _, name := range []string{"", "c", "A", "aa", "a ", "main", strings.Repeat("a", 1<<16), "\x00\xff"} {
			if got, e := order.Needs(l, name); e != api.ErrNone || len(got) > 0 {
				t.Errorf("Needs of %v, %q: %v %d", l, name, got, e)
			}
		}
	}
}

// K1: how many modules there are, asked first.
func TestMods(t *testing.T) {
	if l, e := order.Sort([]api.Module{}); e != api.OK || len(l) > 0 {
		t.Errorf("Sort of nothing: %v %d", l, e)
	}
	if l, e := order.Sort(mods("a", "b", "c", "d")); e != api.OK || len(l) != api.MaxMods {
		t.Errorf("Sort of MaxMods: %v %d", l, e)
	}
	wantErr(t, "one more", mods("a", "b", "c", "d", "e"), api.ErrMany)
	wantErr(t, "one more, of one name, with wrong uses", mods("a a", "a x", "a", "a", "A"), api.ErrMany)
	wantErr(t, "far more, with a wrong kind", slices.Repeat([]api.Module{{Decls: make([]api.Decl, 1)}}, 1<<12), api.ErrMany)
}

// wrong tells modules that are not right, by tree.Check's errors.
func wrong() map[api.Errno]api.Module {
	return map[api.Errno]api.Module{
		api.ErrKind: {Name: "a", Main: make([]api.Stmt, 1)},
		api.ErrMany: {Name: "a", Uses: []string{"a", "a", "a", "a"}},
		api.ErrForm: {Name: "main"},
	}
}

// K1: tree.Check's first error: of the first module that is not right.
func TestWrong(t *testing.T) {
	for e, m := range wrong() {
		if tree.Check(m) != e {
			t.Fatalf("Check of %+v: %d", m, tree.Check(m))
		}
		for i := range api.MaxMods {
			l := mods("a", "b", "c", "d")
			l[i] = m
			wantErr(t, fmt.Sprint(e, " at ", i), l, e)
		}
		for f, n := range wrong() {
			wantErr(t, fmt.Sprint(e, " ahead of ", f), []api.Module{{Name: "b"}, m, n}, e)
		}
		wantErr(t, "ahead of two of one name", append(mods("b", "b"), m), e)
		wantErr(t, "ahead of a use that is no module", append(mods("b x"), m), e)
		wantErr(t, "ahead of one that uses itself", append(mods("b b"), m), e)
	}
}

// K1: two of one name, then uses that are no modules, then no order.
func TestErrors(t *testing.T) {
	wantErr(t, "two of one name", mods("a", "a"), api.ErrThere)
	wantErr(t, "two of one name, far off", mods("b", "a", "c", "b"), api.ErrThere)
	wantErr(t, "two of one name, and no such use", mods("a x", "b", "b"), api.ErrThere)
	wantErr(t, "two of one name, that use one another", mods("a a", "a a"), api.ErrThere)
	wantErr(t, "no such use", mods("a b"), api.ErrNone)
	wantErr(t, "no such use, the last", mods("a", "b a", "c a b d"), api.ErrNone)
	wantErr(t, "no such use, and one that uses itself", mods("a a", "b x"), api.ErrNone)
	wantErr(t, "no such use behind", mods("a b", "b a", "c d"), api.ErrNone)
	wantErr(t, "a use that another name begins with", mods("aa", "b a"), api.ErrNone)
}

// K1: nothing of a module is asked for but its name, its uses, and that it is right.
func TestBare(t *testing.T) {
	m, e := tree.Parse("module b{use a;pub const a=1;var b;proc c(d)local e;{return x;}main{out y.z;}}")
	if e != api.OK {
		t.Fatal(e)
	}
	l := append([]api.Module{m}, mods("a")...)
	got, e := order.Sort(l)
	need, d := order.Needs(l, "b")
	if e != api.OK || d != api.OK || !slices.Equal(got, []int{1, 0}) || !slices.Equal(need, []string{"a"}) {
		t.Errorf("%v %d, %v %d", got, e, need, d)
	}
}
