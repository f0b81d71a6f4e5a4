package order_test

import (
	"slices"
	"testing"

	"bellwright/api"
	"bellwright/order"
)

// graph tells four modules, by which of them each uses.
type graph [4][]int

const letters = "bdac" // not as they rise

func (g graph) mods() []api.Module {
	var l []api.Module
	for i, uses := range g {
		m := api.Module{Name: letters[i : i+1]}
		for _, k := range uses {
			m.Uses = append(m.Uses, letters[k:k+1])
		}
		l = append(l, m)
	}
	return l
}

// holds tells whether in an order each is behind all that it uses.
func (g graph) holds(turn []int) bool {
	for at, i := range turn {
		for _, k := range g[i] {
			if !slices.Contains(turn[:at], k) {
				return false
			}
		}
	}
	return true
}

// least tells the order of those that hold whose names are least, from the first on: that is the one in which the least that may come does.
func (g graph) least(all [][]int) []int {
	var best []int
	for _, turn := range all {
		if g.holds(turn) && (best == nil || slices.Compare(names(g.mods(), turn), names(g.mods(), best)) < 0) {
			best = turn
		}
	}
	return best
}

// needs goes along the uses as often as there are modules.
func (g graph) needs(i int) []string {
	var all [4]int
	for _, k := range g[i] {
		all[k] = 1
	}
	for range g {
		for k, uses := range g {
			for _, n := range uses {
				all[n] |= all[k]
			}
		}
	}
	var l []string
	for k, is := range all {
		if is == 1 {
			l = append(l, letters[k:k+1])
		}
	}
	slices.Sort(l)
	return l
}

// parts tells which of the modules may be used: all choices of at most MaxUses.
func parts() [][]int {
	var all [][]int
	for bits := range 15 {
		var l []int
		for i := range 4 {
			if bits>>i&1 == 1 {
				l = append(l, 3-i)
			}
		}
		all = append(all, l)
	}
	return all
}

// K1, K2: of all ways in which four modules may use one another.
func TestAllGraphs(t *testing.T) {
	all, choice := orders(4), parts()
	round, sorted := 0, 0
	for n := range len(choice) * len(choice) * len(choice) * len(choice) {
		var g graph
		for i := range g {
			g[i] = choice[n%15]
			n /= 15
		}
		l := g.mods()
		want, e := g.least(all), api.OK
		if want == nil {
			e = api.ErrRound
			round++
		} else {
			sorted++
		}
		if got, d := order.Sort(l); d != e || !slices.Equal(got, want) {
			t.Fatalf("Sort of %v: %v %d, must be %v %d", l, got, d, want, e)
		}
		for i, m := range l {
			if got, d := order.Needs(l, m.Name); d != api.OK || !slices.Equal(got, g.needs(i)) {
				t.Fatalf("Needs of %v, %s: %v %d, must be %v", l, m.Name, got, d, g.needs(i))
			}
		}
	}
	if sorted < 500 || round < 500 {
		t.Errorf("%d have an order, %d have none", sorted, round)
	}
}

// P1, P2: whatever is handed in, nothing panics, and it stays as it is.
func TestAnything(t *testing.T) {
	deep := []api.Expr{{Op: api.Not}}
	deep[0].Args = deep // it lies in itself
	body := []api.Stmt{{Op: api.While, Args: deep}}
	body[0].Body = body
	for _, l := range [][]api.Module{
		make([]api.Module, 3), {{Name: "a", Main: body}}, {{Name: "a", Procs: []api.Proc{{Name: "a", Body: body}}}},
		{{Name: "a", Uses: make([]string, 3)}}, {{Name: "a", Uses: make([]string, 1<<16)}}, {{Name: "a", Decls: []api.Decl{{Kind: 1 << 40}}}},
	} {
		s, e := order.Sort(l)
		n, d := order.Needs(l, "a")
		if e == api.OK || d != e || len(s) > 0 || len(n) > 0 {
			t.Errorf("%v %d, %v %d", s, e, n, d)
		}
	}
}

// P2, P3: lists with room behind them stay as they are; an answer is the caller's.
func TestAnswers(t *testing.T) {
	spare := append(mods("c b a", "b a", "a"), api.Module{Name: "spare"})
	spare[0].Uses = append(spare[0].Uses, "spare")[:2]
	l := spare[:3]
	first, _ := order.Sort(l)
	second, _ := order.Sort(l)
	need, _ := order.Needs(l, "c")
	again, _ := order.Needs(l, "c")
	for i := range first[:cap(first)] {
		first[:cap(first)][i] = 99
	}
	for i := range need[:cap(need)] {
		need[:cap(need)][i] = "no"
	}
	if !same(spare[:4], append(mods("c b a", "b a", "a"), api.Module{Name: "spare"})) || spare[0].Uses[:3][2] != "spare" {
		t.Errorf("what was handed in is changed: %v", spare)
	}
	l[0], l[1].Uses[0] = api.Module{Name: "x"}, "y"
	if !slices.Equal(second, []int{2, 1, 0}) || !slices.Equal(again, []string{"a", "b"}) {
		t.Errorf("%v and %v", second, again)
	}
}
