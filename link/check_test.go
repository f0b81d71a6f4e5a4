package link_test

import (
	"fmt"
	"testing"

	"bellwright/api"
	"bellwright/link"
)

// I1: how many objects there are.
func TestMods(t *testing.T) {
	wantCheck(t, "none", nil, api.ErrMany)
	wantCheck(t, "an empty list", []api.Object{}, api.ErrMany)
	wantCheck(t, "one", named("a"), api.OK)
	wantCheck(t, "MaxMods", named("a", "b", "c", "d"), api.OK)
	wantCheck(t, "one more", named("a", "b", "c", "d", "e"), api.ErrMany)
	wantCheck(t, "far more", make([]api.Object, 1<<12), api.ErrMany)
}

// I1: what obj.Check tells of an object; of several wrong ones that of the first.
func TestObjects(t *testing.T) {
	form, many := object("A", 1), object("m", 0)
	for i := range api.MaxMods {
		l := named("a", "b", "c", "d")
		l[i] = form
		wantCheck(t, fmt.Sprint("a wrong name at ", i), l, api.ErrForm)
		l[i] = many
		wantCheck(t, fmt.Sprint("no code at ", i), l, api.ErrMany)
	}
	wantCheck(t, "form, then many", []api.Object{form, many}, api.ErrForm)
	wantCheck(t, "many, then form", []api.Object{many, form}, api.ErrMany)
	wantCheck(t, "one, form, many", []api.Object{object("a", 1), form, many}, api.ErrForm)
	use := object("a", 1, "a")
	wantCheck(t, "a use of itself", []api.Object{use}, api.ErrForm)
	wantCheck(t, "a use of itself behind one of that name", []api.Object{object("a", 1), use}, api.ErrForm)
	wantCheck(t, "two uses alike", []api.Object{object("a", 1), object("b", 1, "a", "a")}, api.ErrForm)
}

// I1: no two have one Name; a use is the Name of one ahead.
func TestNames(t *testing.T) {
	for _, c := range []struct {
		l    [][]string // each a name, and its uses
		want api.Errno
	}{
		{[][]string{{"a"}, {"b", "a"}, {"c", "b", "a"}, {"d", "a", "c", "b"}}, api.OK},
		{[][]string{{"a"}, {"b", "a"}, {"c", "a"}, {"d"}}, api.OK},
		{[][]string{{"in"}, {"main", "in"}}, api.OK},
		{[][]string{{"a"}, {"a"}}, api.ErrThere},
		{[][]string{{"a"}, {"b"}, {"c"}, {"a"}}, api.ErrThere},
		{[][]string{{"a"}, {"b"}, {"b", "a"}}, api.ErrThere},
		{[][]string{{"a", "b"}, {"b"}}, api.ErrRound},
		{[][]string{{"a", "b"}, {"b", "a"}}, api.ErrRound},
		{[][]string{{"a", "b"}}, api.ErrRound},
		{[][]string{{"a"}, {"b", "a", "c"}}, api.ErrRound},
		{[][]string{{"a"}, {"b", "a", "c"}, {"c"}}, api.ErrRound},
		{[][]string{{"a"}, {"b"}, {"c", "a", "b", "d"}, {"d"}}, api.ErrRound},
		{[][]string{{"b", "a"}, {"a"}, {"a"}}, api.ErrThere}, // ahead of ErrRound
		{[][]string{{"a"}, {"a"}, {"b", "c"}}, api.ErrThere},
		{[][]string{{"b", "c"}, {"a"}, {"a"}}, api.ErrThere},
	} {
		var l []api.Object
		for _, x := range c.l {
			l = append(l, object(x[0], 2, x[1:]...))
		}
		wantCheck(t, fmt.Sprint(c.l), l, c.want)
	}
}

// withFix tells three objects, of two, no and three entries, the last of which uses the others, with a fix of a kind.
func withFix(kind, m, a int) []api.Object {
	l := []api.Object{object("a", 4), object("b", 1), object("c", 3, "b", "a")}
	l[0].Entries, l[2].Entries = []int{0, 3}, []int{2, 1, 0}
	l[2].Fixes = []api.Fix{{At: 0, Kind: api.FixProc, M: 2}, {At: 1, Kind: kind, M: m}}
	l[2].Code[1].A = a
	return l
}

// I1: a FixProc's A is the number of an entry of its module: M 0 is the object itself, others are its uses.
func TestEntries(t *testing.T) {
	for _, c := range []struct {
		m, a int
		want api.Errno
	}{
		{0, 0, api.OK}, {0, 2, api.OK}, {0, 3, api.ErrNone}, {0, api.MaxCode, api.ErrNone},
		{1, 0, api.ErrNone}, {1, 1, api.ErrNone},
		{2, 0, api.OK}, {2, 1, api.OK}, {2, 2, api.ErrNone},
		{0, -1, api.ErrForm}, {0, api.MaxCode + 1, api.ErrForm}, {3, 0, api.ErrForm},
	} {
		wantCheck(t, fmt.Sprintf("%+v", c), withFix(api.FixProc, c.m, c.a), c.want)
	}
	// Of others it is not asked.
	for _, m := range []int{0, 1, 2} {
		wantCheck(t, "data", withFix(api.FixData, m, api.MaxCode), api.OK)
	}
	wantCheck(t, "code", withFix(api.FixCode, 0, 3), api.OK)
	// Without a fix, A is what it is.
	l := withFix(api.FixProc, 1, 7)
	l[2].Code[1].Op, l[2].Fixes = api.OpCall, nil
	wantCheck(t, "a call that is not fixed", l, api.OK)
	// ErrThere and ErrRound are ahead.
	l = withFix(api.FixProc, 1, 7)
	wantCheck(t, "two names and no entry", append(l, object("a", 1)), api.ErrThere)
	wantCheck(t, "no use and no entry", append(l, object("d", 1, "e")), api.ErrRound)
	wantCheck(t, "no entry ahead of one that is right", append(l, object("d", 1)), api.ErrNone)
	wantCheck(t, "a wrong object and no entry", append(l, object("", 1)), api.ErrForm)
}

// I2: MaxCode instructions and MaxData numbers may be; one more is ErrMany of Link, behind Check's errors.
func TestLimits(t *testing.T) {
	for _, c := range []struct {
		code, data []int
		want       api.Errno
	}{
		{[]int{api.MaxCode - 2}, []int{api.MaxData}, api.OK},
		{[]int{api.MaxCode - 1}, []int{0}, api.ErrMany},
		{[]int{api.MaxCode}, []int{0}, api.ErrMany},
		{[]int{1000, api.MaxCode - 1003}, []int{500, 12}, api.OK},
		{[]int{1000, api.MaxCode - 1002}, []int{0, 0}, api.ErrMany},
		{[]int{500, 500, 500, api.MaxCode - 1505}, []int{128, 128, 128, 128}, api.OK},
		{[]int{500, 500, 500, api.MaxCode - 1504}, []int{0, 0, 0, 0}, api.ErrMany},
		{[]int{api.MaxCode, api.MaxCode, api.MaxCode, api.MaxCode}, []int{api.MaxData, api.MaxData, api.MaxData, api.MaxData}, api.ErrMany},
		{[]int{1, 1}, []int{api.MaxData, 0}, api.OK},
		{[]int{1, 1}, []int{0, api.MaxData}, api.OK},
		{[]int{1, 1}, []int{api.MaxData, 1}, api.ErrMany},
		{[]int{1, 1}, []int{1, api.MaxData}, api.ErrMany},
		{[]int{1, 1, 1, 1}, []int{128, 128, 128, 129}, api.ErrMany},
	} {
		l := named("a", "b", "c", "d")[:len(c.code)]
		for i := range l {
			l[i].Code, l[i].Data = repeat(ins(api.OpNop, 0, 0), c.code[i]), c.data[i]
		}
		if e := link.Check(l); e != api.OK {
			t.Errorf("Check of %v %v: %d", c.code, c.data, e)
		}
		m, e := link.Link(l)
		if e != c.want || e != api.OK && !same(m, api.Image{}) {
			t.Errorf("Link of %v %v: %d instructions, %d numbers, %d", c.code, c.data, len(m.Code), m.Data, e)
		}
	}
	l := []api.Object{object("a", api.MaxCode), object("b", 1, "c")}
	wantCheck(t, "too much code, and a use that is not there", l, api.ErrRound)
	l[1] = object("b", 1)
	l[1].Fixes = []api.Fix{{At: 0, Kind: api.FixProc}}
	wantCheck(t, "too much code, and no entry", l, api.ErrNone)
	l[1] = object("a", 1)
	wantCheck(t, "too much code, and two names", l, api.ErrThere)
}
