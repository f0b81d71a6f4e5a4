package units_test

import (
	"math"
	"slices"
	"testing"

	"bellwright/api"
	"bellwright/units"
)

// asked answers yes, or no, and keeps what it was asked.
type asked struct {
	yes bool
	all [][4]int
}

func (a *asked) HasNumbers(m, at, n int) bool {
	a.all = append(a.all, [4]int{1, m, at, n})
	return a.yes
}

func (a *asked) HasPart(m, at, params int) bool {
	a.all = append(a.all, [4]int{2, m, at, params})
	return a.yes
}

// D1, G1: of what is used all is asked, of a unit's own things nothing, and nothing of uses that there are not.
func TestAsked(t *testing.T) {
	one := []api.Node{{Op: api.Num, N: 1}}
	u := api.Unit{Name: "a", Uses: []string{"b", "c"}, Data: 4, Parts: []api.Part{{Params: 1, Body: []api.Act{{Op: api.Set, M: 2, At: 1000, Args: one}}}}}
	u.Main = []api.Act{
		{Op: api.Set, At: 3, Args: []api.Node{{Op: api.Var, M: 1, At: -5}}},
		{Op: api.Put, N: 8, M: 1, At: 9, Args: []api.Node{{Op: api.Elem, N: 2, M: 2, At: 6, Args: one}, {Op: api.Var, At: 2}}},
		{Op: api.Do, Args: []api.Node{{Op: api.Call, M: 2, At: 77, Args: one}}},
		{Op: api.Do, M: 1, At: -1},
	}
	want := [][4]int{{1, 2, 1000, 1}, {1, 1, -5, 1}, {1, 1, 9, 8}, {1, 2, 6, 2}, {2, 2, 77, 1}, {2, 1, -1, 0}}
	yes, no := &asked{yes: true}, &asked{}
	if !units.Hold(u, yes) || !slices.Equal(yes.all, want) {
		t.Errorf("asked for %v, must be %v", yes.all, want)
	}
	if units.Hold(u, no) || !slices.Equal(no.all, want[:1]) {
		t.Errorf("asked for %v, must be %v", no.all, want[:1])
	}
	for _, m := range []int{-1, 3, math.MinInt64, math.MaxInt64} {
		for _, n := range []api.Node{{Op: api.Var, M: m}, {Op: api.Elem, N: 1, M: m, Args: one}, {Op: api.Call, M: m}} {
			yes = &asked{yes: true}
			u.Parts[0].Body = []api.Act{{Op: api.Out, Args: []api.Node{n}}}
			if units.Hold(u, yes) || len(yes.all) > 0 {
				t.Errorf("%+v holds, or is asked for: %v", n, yes.all)
			}
		}
	}
}

// D1: places at the end of what there is, and those whose sum would go round.
func TestLieIn(t *testing.T) {
	for _, c := range []struct {
		size, at, n int
		want        bool
	}{
		{5, 0, 5, true}, {5, 4, 1, true}, {5, 5, 1, false}, {5, 3, 3, false}, {5, -1, 1, false}, {0, 0, 1, false},
		{5, math.MaxInt64, 1, false}, {5, math.MaxInt64 - 1, 32, false}, {5, math.MinInt64, 32, false},
	} {
		if is := units.LieIn(c.size, c.at, c.n); is != c.want {
			t.Errorf("%+v: %v", c, is)
		}
	}
}
