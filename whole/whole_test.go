package whole_test

import (
	"fmt"
	"slices"
	"strings"
	"testing"

	"bellwright/api"
	"bellwright/whole"
)

// M1, M2: the document's example, in each order of the texts.
func TestExample(t *testing.T) {
	for _, l := range orders([]string{cnt, top}) {
		wantBoth(t, l, []int{1}, 100, api.Result{Out: []int{6, 7}, Data: []int{6, 0, 6, 0, 0}, Ticks: 6})
		wantBoth(t, l, []int{1}, 6, api.Result{Out: []int{6, 7}, Data: []int{6, 0, 6, 0, 0}, Ticks: 6})
		wantBoth(t, l, []int{4}, 100, api.Result{End: api.Outside, Data: []int{6, 0, 6, 0, 0}, Ticks: 6})
		wantBoth(t, l, []int{1}, 4, api.Result{End: api.NoTicks, Data: []int{3, 0, 0, 0, 0}, Ticks: 4})
		wantBoth(t, l, []int{1}, 0, api.Result{End: api.NoTicks, Data: make([]int, 5)})
	}
}

// count tells the numbers from one up to another.
func count(from, to int) []int {
	var l []int
	for n := from; n <= to; n++ {
		l = append(l, n)
	}
	return l
}

// M1, M2: each end, in the midst of something.
func TestEnds(t *testing.T) {
	const r = "module r{var n;proc r(){n=(n+1);out n;r();out 0;}main{out 7;r();out 8;}}"
	const w = "module w{var i;main{while 1{i=(i+1);out i;}}}"
	for _, c := range []struct {
		text  string
		in    []int
		ticks int
		want  api.Result
	}{
		{"module a{main{}}", nil, 1, api.Result{Ticks: 1}},
		{"module a{main{}}", nil, 0, api.Result{End: api.NoTicks}},
		{"module a{var x;main{out(2*3);x=(5-9);out x;out(x<0);if 0{out 1;}else{out 2;}}}", nil, 1, api.Result{Out: []int{6, -4, 1, 2}, Data: []int{-4}, Ticks: 1}},
		{"module a{var x;main{x=4;out 1;out(7/in);out 2;}}", []int{2}, 9, api.Result{Out: []int{1, 3, 2}, Data: []int{4}, Ticks: 1}},
		{"module a{var x;main{x=4;out 1;x=(7/in);out 2;}}", nil, 9, api.Result{End: api.ByZero, Out: []int{1}, Data: []int{4}, Ticks: 1}},
		{"module a{var x;main{x=4;out(1%0);}}", nil, 9, api.Result{End: api.ByZero, Data: []int{4}, Ticks: 1}},
		{"module a{array t[2];main{t[1]=3;t[2]=(1/0);}}", nil, 9, api.Result{End: api.Outside, Data: []int{0, 3}, Ticks: 1}},
		{"module a{array t[2];main{t[1]=3;t[0]=t[(0-1)];}}", nil, 9, api.Result{End: api.Outside, Data: []int{0, 3}, Ticks: 1}},
		{r, nil, api.MaxTicks, api.Result{End: api.TooDeep, Out: append([]int{7}, count(1, 23)...), Data: []int{23}, Ticks: 25}},
		{r, nil, 24, api.Result{End: api.NoTicks, Out: append([]int{7}, count(1, 23)...), Data: []int{23}, Ticks: 24}},
		{w, nil, api.MaxTicks, api.Result{End: api.FullOut, Out: count(1, api.MaxOut), Data: []int{api.MaxOut + 1}, Ticks: api.MaxOut + 2}},
		{w, nil, 5, api.Result{End: api.NoTicks, Out: count(1, 4), Data: []int{4}, Ticks: 5}},
		{"module a{main{out 1;return 2;out 3;}}", nil, 5, api.Result{Out: []int{1}, Ticks: 1}},
		{"module a{main{while 1{}}}", nil, api.MaxTicks, api.Result{End: api.NoTicks, Ticks: api.MaxTicks}},
	} {
		wantBoth(t, []string{c.text}, c.in, c.ticks, c.want)
	}
}

// M1: mains are called in the order of Sort, whatever the order of the texts, and those too that nobody uses.
func TestMains(t *testing.T) {
	for _, l := range orders([]string{"module a{use z;main{out z.x;z.x=4;}}", "module b{main{out 2;}}", "module z{pub var x;main{out 26;x=3;}}", "module y{use z;pub array t[2];main{out z.x;t[1]=7;}}"}) {
		wantBoth(t, l, nil, 9, api.Result{Out: []int{2, 26, 3, 4}, Data: []int{4, 0, 7}, Ticks: 4})
	}
}

// M1: what is wrong with texts is told first.
func TestErrors(t *testing.T) {
	const a = "module a{main{}}"
	for _, c := range []struct {
		what string
		l    []string
		want api.Errno
	}{
		{"no text", nil, api.ErrMany},
		{"too many texts", slices.Repeat([]string{a}, api.MaxMods+1), api.ErrMany},
		{"an empty text", []string{a, ""}, api.ErrForm},
		{"a long text", []string{strings.Repeat(" ", api.MaxText+1)}, api.ErrMany},
		{"two of one name", []string{a, a}, api.ErrThere},
		{"a use that is no module", []string{"module b{use a;main{}}"}, api.ErrNone},
		{"one that uses itself", []string{"module a{use a;main{}}"}, api.ErrRound},
		{"a name that stands for nothing", []string{"module a{main{out x;}}"}, api.ErrNone},
		{"a constant that is set", []string{"module a{const x=1;main{x=1;}}"}, api.ErrWrong},
		{"too few numbers", []string{"module a{proc p(n){}main{p();}}"}, api.ErrCount},
		{"two names alike", []string{"module a{var x;var x;main{}}"}, api.ErrThere},
	} {
		wantErrors(t, c.what, c.l, nil, 5, c.want, c.want)
		wantErrors(t, c.what+", and ticks", c.l, nil, -1, c.want, c.want)
		wantErrors(t, c.what+", and in", c.l, make([]int, api.MaxIn+1), api.MaxTicks+1, c.want, c.want)
	}
}

// M1: then what is wrong with a run.
func TestRunErrors(t *testing.T) {
	l := []string{"module a{main{out in;}}"}
	full := make([]int, api.MaxIn)
	far := append(full, 1)
	for _, c := range []struct {
		in    []int
		ticks int
		want  api.Errno
	}{
		{nil, 0, api.OK}, {nil, api.MaxTicks, api.OK}, {full, 1, api.OK},
		{nil, -1, api.ErrRange}, {nil, api.MaxTicks + 1, api.ErrRange}, {nil, 1<<63 - 1, api.ErrRange}, {nil, -1 << 63, api.ErrRange}, {full, -1, api.ErrRange},
		{far, 1, api.ErrMany}, {far, -1, api.ErrMany}, {far, api.MaxTicks + 1, api.ErrMany}, {make([]int, 1<<16), 1, api.ErrMany},
	} {
		wantErrors(t, fmt.Sprint(len(c.in), " numbers, ", c.ticks, " ticks"), l, c.in, c.ticks, c.want, c.want)
	}
}

// much tells a module with 3 instructions, and 10 statements, of 157 each.
func much(name string) string {
	s := "1"
	for range api.MaxDeep - 1 {
		s = "(" + s + "&" + s + ")"
	}
	return "module " + name + "{main{" + strings.Repeat("out"+s+";", api.MaxBlock) + "}}"
}

// heavy tells a module that needs so many arrays' numbers, each of MaxArray.
func heavy(name string, n int) string {
	s := "module " + name + "{"
	for i := range n {
		s += fmt.Sprintf("array t%d[%d];", i, api.MaxArray)
	}
	return s + "main{}}"
}

// M1: what is too much for code means something all the same; too much data is told by each call as it is there.
func TestMuch(t *testing.T) {
	wantErrors(t, "much code", []string{much("a"), much("b")}, nil, 5, api.OK, api.ErrMany)
	wantErrors(t, "much code, and ticks", []string{much("a"), much("b")}, nil, -1, api.ErrRange, api.ErrMany)
	wantErrors(t, "much data", []string{heavy("a", 10), heavy("b", 7)}, nil, 5, api.ErrForm, api.ErrMany)
	wantErrors(t, "much data, and in", []string{heavy("a", 10), heavy("b", 7)}, make([]int, api.MaxIn+1), 5, api.ErrForm, api.ErrMany)
	wantBoth(t, []string{much("a")}, nil, 5, api.Result{Out: slices.Repeat([]int{1}, 10), Ticks: 1})
	wantBoth(t, []string{heavy("b", 10), heavy("a", 6)}, nil, 5, api.Result{Data: make([]int, api.MaxData), Ticks: 2})
}

// P2, P3: lists stay as they are, with the room behind them; an answer is the caller's.
func TestAnswers(t *testing.T) {
	type call func([]string, []int, int) (api.Result, api.Errno)
	for _, f := range []call{whole.Mean, whole.Exec} {
		l, in := []string{top, cnt, "spare"}, []int{1, 77, 78}
		first, _ := f(l[:2], in[:1], 9)
		second, _ := f(l[:2], in[:1], 9)
		for i := range first.Out[:cap(first.Out)] {
			first.Out[:cap(first.Out)][i] = 99
		}
		if slices.Contains(first.Data[:cap(first.Data)], 99) {
			t.Error("Out and Data share memory")
		}
		clear(first.Data[:cap(first.Data)])
		if !slices.Equal(l, []string{top, cnt, "spare"}) || !slices.Equal(in, []int{1, 77, 78}) {
			t.Errorf("what was handed in is changed: %q, %v", l, in)
		}
		third, _ := f(l[:2], in[:1], 9)
		clear(l)
		clear(in)
		want := api.Result{Out: []int{6, 7}, Data: []int{6, 0, 6, 0, 0}, Ticks: 6}
		if !same(second, want) || !same(third, want) {
			t.Errorf("%+v and %+v, must be %+v", second, third, want)
		}
	}
}
