package order_test

import (
	"fmt"
	"slices"
	"strings"
	"testing"

	"bellwright/api"
	"bellwright/order"
)

// same holds values against each other, of which an empty list may be nil or not.
func same(a, b any) bool { return fmt.Sprintf("%+v", a) == fmt.Sprintf("%+v", b) }

// mods tells modules: each text is a name, and those that it uses.
func mods(l ...string) []api.Module {
	var all []api.Module
	for _, s := range l {
		names := strings.Fields(s)
		all = append(all, api.Module{Name: names[0], Uses: names[1:]})
	}
	return all
}

func names(l []api.Module, numbers []int) []string {
	var all []string
	for _, i := range numbers {
		all = append(all, l[i].Name)
	}
	return all
}

// orders tells all orders of so many.
func orders(n int) [][]int {
	if n == 0 {
		return [][]int{nil}
	}
	var all [][]int
	for _, l := range orders(n - 1) {
		for at := range n {
			all = append(all, slices.Insert(slices.Clone(l), at, n-1))
		}
	}
	return all
}

// wantErr asks that both calls tell an error, and nothing beside.
func wantErr(t *testing.T, what string, l []api.Module, want api.Errno) {
	t.Helper()
	if got, e := order.Sort(l); e != want || len(got) > 0 {
		t.Errorf("Sort of %s: %v %d, must be %d", what, got, e, want)
	}
	for _, name := range []string{"a", "b", "", "none"} {
		if got, e := order.Needs(l, name); e != want || len(got) > 0 {
			t.Errorf("Needs of %s, %q: %v %d, must be %d", what, name, got, e, want)
		}
	}
}
