package sem

import (
	"fmt"
	"math"
	"slices"
	"testing"

	"bellwright/api"
)

// The document's example.
const cnt = "module cnt{pub const k=3;pub var sum;pub array t[4];pub proc down(n)local i;{i=n;while i{sum=(sum+i);i=(i-1);}return sum;}main{}}"
const top = "module top{use cnt;main{cnt.t[1]=cnt.down(cnt.k);out cnt.t[in];if(cnt.sum=6){out 7;}else{out 8;}}}"

func TestExample(t *testing.T) {
	l := program(t, cnt, top)
	for _, c := range []struct {
		in, ticks int
		want      api.Result
	}{
		{1, 6, api.Result{Out: []int{6, 7}, Data: []int{6, 0, 6, 0, 0}, Ticks: 6}},
		{4, 6, api.Result{End: api.Outside, Data: []int{6, 0, 6, 0, 0}, Ticks: 6}},
		{1, 4, api.Result{End: api.NoTicks, Data: []int{3, 0, 0, 0, 0}, Ticks: 4}},
	} {
		r, e := Run(l, []int{c.in}, c.ticks)
		if e != api.OK || !same(r, c.want) {
			t.Errorf("handed %d, with %d ticks: %+v %d, must be %+v", c.in, c.ticks, r, e, c.want)
		}
	}
}

// outs tells what a main tells that tells these expressions.
func outs(t *testing.T, exprs []string, in ...int) []int {
	t.Helper()
	s := "module m{var v;array t[3];proc id(x){return x;}proc none(){}main{t[0]=10;t[1]=11;t[2]=12;v=5;"
	for _, x := range exprs {
		s += "out " + x + ";"
	}
	r := run(t, program(t, s+"}}"), in...)
	if r.End != api.Ended {
		t.Fatalf("%v ends by %d", exprs, r.End)
	}
	return r.Out
}

// D2: what each expression is.
func TestExpressions(t *testing.T) {
	for x, want := range map[string]int{
		"7": 7, "1099511627775": api.MaxNumber, "0": 0, "v": 5, "t[0]": 10, "t[2]": 12, "t[(v-4)]": 11,
		"id(9)": 9, "none()": 0, "id(id(t[id(1)]))": 11,
		"!0": 1, "!1": 0, "!7": 0, "!(0-1)": 0, "!!7": 1,
		"(0&0)": 0, "(0&3)": 0, "(3&0)": 0, "(3&4)": 1, "((0-1)&(0-2))": 1,
		"(0|0)": 0, "(0|3)": 1, "(3|0)": 1, "(3|4)": 1, "((0-1)|0)": 1,
		"(3+4)": 7, "(3-4)": -1, "(3*4)": 12, "((0-3)*4)": -12,
		"(7/2)": 3, "((0-7)/2)": -3, "(7/(0-2))": -3, "((0-7)/(0-2))": 3, "(1/2)": 0, "((0-1)/2)": 0, "(0/5)": 0,
		"(7%2)": 1, "((0-7)%2)": -1, "(7%(0-2))": 1, "((0-7)%(0-2))": -1, "(6%3)": 0, "(2%7)": 2,
		"(3=3)": 1, "(3=4)": 0, "(0=(0-0))": 1, "((0-1)=1)": 0,
		"(3<4)": 1, "(4<4)": 0, "(5<4)": 0, "((0-1)<0)": 1, "(0<(0-1))": 0,
	} {
		if l := outs(t, []string{x}); !slices.Equal(l, []int{want}) {
			t.Errorf("%s: %v, must be %d", x, l, want)
		}
	}
}

// D2: numbers have 64 bits and go round.
func TestRoundNumbers(t *testing.T) {
	for _, c := range []struct {
		x    string
		in   []int
		want int
	}{
		{"(in+in)", []int{math.MaxInt64, 1}, math.MinInt64},
		{"(in+in)", []int{math.MinInt64, -1}, math.MaxInt64},
		{"(in-in)", []int{math.MinInt64, 1}, math.MaxInt64},
		{"(in-in)", []int{0, math.MinInt64}, math.MinInt64},
		{"(in*in)", []int{math.MinInt64, -1}, math.MinInt64},
		{"(in*in)", []int{1 << 32, 1 << 32}, 0},
		{"(in*in)", []int{math.MaxInt64, math.MaxInt64}, 1},
		{"(in*in)", []int{math.MaxInt64, 2}, -2},
		{"(in/in)", []int{math.MinInt64, -1}, math.MinInt64},
		{"(in%in)", []int{math.MinInt64, -1}, 0},
		{"(in/in)", []int{math.MinInt64, 1}, math.MinInt64},
		{"(in%in)", []int{math.MinInt64, math.MaxInt64}, -1},
		{"(in<in)", []int{math.MinInt64, math.MaxInt64}, 1},
		{"(in<in)", []int{math.MaxInt64, math.MinInt64}, 0},
		{"(in=in)", []int{math.MaxInt64, math.MinInt64}, 0},
		{"!in", []int{math.MinInt64}, 0},
		{"(in|in)", []int{1 << 32, 0}, 1},
		{"(in&in)", []int{1 << 32, math.MinInt64}, 1},
		{"in", []int{math.MinInt64}, math.MinInt64},
	} {
		if l := outs(t, []string{c.x}, c.in...); !slices.Equal(l, []int{c.want}) {
			t.Errorf("%s of %v: %v, must be %d", c.x, c.in, l, c.want)
		}
	}
}

// D2: the numbers that are handed in, one by one, then 0; as many as may be.
func TestIn(t *testing.T) {
	l := outs(t, []string{"in", "(in-in)", "id(in)", "in", "in"}, 5, 9, 2, -4)
	if want := []int{5, 7, -4, 0, 0}; !slices.Equal(l, want) {
		t.Errorf("%v, must be %v", l, want)
	}
	s := "module m{var s;var n;main{while(n<70){s=(s+in);n=(n+1);}}}"
	full := make([]int, api.MaxIn)
	for i := range full {
		full[i] = 1 << i
	}
	wantRun(t, s, full, api.Result{Data: []int{-1, 70}, Ticks: 71})
	// In a call the next one comes, wherever it is asked for.
	wantRun(t, "module m{proc p(a){out in;return(a*10);}main{out(in+p(in));out in;}}", []int{1, 2, 3, 4}, api.Result{Out: []int{3, 21, 4}, Ticks: 2})
	r := run(t, program(t, "module a{main{out in;}}", "module b{main{out in;}}"), 8, 9)
	if !slices.Equal(r.Out, []int{8, 9}) {
		t.Errorf("%v", r.Out)
	}
}

// D2: arguments are worked out from the left on; of And and Or the second one only if the first does not tell.
func TestArguments(t *testing.T) {
	for s, want := range map[string][]int{
		"out(s(1)+s(2));": {1, 2, 3}, "out(s(1)<s(2));": {1, 2, 1}, "out(s(0)-s(5));": {0, 5, -5}, "out(s(6)/s(3));": {6, 3, 2}, "out(s(3)=s(6));": {3, 6, 0},
		"out c(s(1),s(2),s(3));": {1, 2, 3, 123}, "c(s(1),s(2),s(3));": {1, 2, 3},
		"out((s(1)+s(2))*(s(3)+s(4)));": {1, 2, 3, 4, 21},
		"out(s(0)&s(1));":               {0, 0}, "out(s(1)&s(0));": {1, 0, 0}, "out(s(2)&s(3));": {2, 3, 1},
		"out(s(0)|s(1));": {0, 1, 1}, "out(s(0)|s(0));": {0, 0, 0}, "out(s(2)|s(3));": {2, 1},
		"out((s(0)&s(1))|(s(2)&s(3)));": {0, 2, 3, 1}, "out((s(1)|s(2))&(s(0)|s(4)));": {1, 0, 4, 1},
		"out(0&(1/0));": {0}, "out(1|t[9]);": {1}, "if(0&s(1)){out 7;}": nil, "if(1|s(1)){out 7;}": {7},
		"t[s(1)]=s(2);out t[1];": {1, 2, 2}, "out t[s(1)];": {1, 0},
	} {
		p := "module m{array t[3];proc s(x){out x;return x;}proc c(x,y,z){return((x*100)+((y*10)+z));}main{" + s + "}}"
		if r := run(t, program(t, p)); r.End != api.Ended || !slices.Equal(r.Out, want) {
			t.Errorf("%s: %+v, must tell %v", s, r, want)
		}
	}
}

// D2: a part has its parameters, and locals that are 0 anew in each call; what it returns, or 0.
func TestParts(t *testing.T) {
	for s, want := range map[string][]int{
		"proc p(a,b)local c;{out a;out b;out c;c=9;a=8;b=7;}main{p(1,2);p(3,4);}":                                      {1, 2, 0, 3, 4, 0},
		"proc p(a){a=(a+1);return a;}main{v=3;out p(v);out v;}":                                                        {4, 3},
		"proc p(a)local b;{b=a;if a{p((a-1));}out b;}main{p(2);}":                                                      {0, 1, 2},
		"proc f(n){if(n<2){return n;}return(f((n-1))+f((n-2)));}main{out f(10);}":                                      {55},
		"proc p(){}proc q(){return 4;out 5;}main{out p();out q();}":                                                    {0, 4},
		"proc p(a){if a{return 1;}}main{out p(1);out p(0);}":                                                           {1, 0},
		"proc p(a){while a{a=(a-1);if(a=2){return a;}}return 99;}main{out p(5);out p(1);}":                             {2, 99},
		"proc p(){while 1{while 1{if 1{if 0{}else{return 6;}}}}}main{out p();}":                                        {6},
		"proc p(){v=2;return 1;}main{p();out v;out(v+p());v=5;out(p()+v);}":                                            {2, 3, 3},
		"proc e(n){if n{return o((n-1));}return 1;}proc o(n){if n{return e((n-1));}return 0;}main{out e(7);out e(8);}": {0, 1},
		"proc p(v){v=3;}main{v=1;p(2);out v;}":                                                                         {1},
		"proc p()local v;{v=3;out v;}main{p();out v;}":                                                                 {3, 0},
	} {
		if r := run(t, program(t, "module m{var v;"+s+"}")); r.End != api.Ended || !slices.Equal(r.Out, want) {
			t.Errorf("%s: %+v, must tell %v", s, r, want)
		}
	}
}

// D3: statements.
func TestStatements(t *testing.T) {
	for s, want := range map[string]api.Result{
		"":                                           {Data: []int{0, 0, 0, 0}, Ticks: 1},
		"v=5;v=(v+v);":                               {Data: []int{10, 0, 0, 0}, Ticks: 1},
		"t[0]=1;t[2]=3;t[1]=(t[0]+t[2]);":            {Data: []int{0, 1, 4, 3}, Ticks: 1},
		"t[2]=2;t[t[2]]=7;out t[2];":                 {Out: []int{7}, Data: []int{0, 0, 0, 7}, Ticks: 1},
		"t[0]=t[p(1)];":                              {Data: []int{0, 0, 0, 0}, Ticks: 2},
		"p(3);":                                      {Data: []int{0, 0, 0, 0}, Ticks: 2},
		"if 1{out 1;}else{out 2;}":                   {Out: []int{1}, Data: []int{0, 0, 0, 0}, Ticks: 1},
		"if 0{out 1;}else{out 2;}":                   {Out: []int{2}, Data: []int{0, 0, 0, 0}, Ticks: 1},
		"if(0-1){out 1;}if 0{out 2;}out 3;":          {Out: []int{1, 3}, Data: []int{0, 0, 0, 0}, Ticks: 1},
		"while 0{out 1;}out 2;":                      {Out: []int{2}, Data: []int{0, 0, 0, 0}, Ticks: 1},
		"v=3;while v{out v;v=(v-1);}out 9;":          {Out: []int{3, 2, 1, 9}, Data: []int{0, 0, 0, 0}, Ticks: 4},
		"v=(0-2);while v{v=(v+1);}":                  {Data: []int{0, 0, 0, 0}, Ticks: 3},
		"v=2;while v{v=(v-1);while p(t[0]){out 1;}}": {Data: []int{0, 0, 0, 0}, Ticks: 5},
		"out 1;return 7;out 2;":                      {Out: []int{1}, Data: []int{0, 0, 0, 0}, Ticks: 1},
		"while 1{out 1;return p(1);}out 2;":          {Out: []int{1}, Data: []int{0, 0, 0, 0}, Ticks: 3},
		"if 1{return v;}else{out 3;}out 2;":          {Data: []int{0, 0, 0, 0}, Ticks: 1},
		"if 0{}else{return v;}out 2;":                {Data: []int{0, 0, 0, 0}, Ticks: 1},
	} {
		wantRun(t, "module m{var v;array t[3];proc p(a){return a;}main{"+s+"}}", nil, want)
	}
}

// D2, D3: the mains of all units, one behind the other; Return ends one of them alone; each unit has data of its own.
func TestMains(t *testing.T) {
	l := program(t,
		"module a{pub var x;pub array t[2];pub proc p(n){out n;x=(x+n);t[1]=x;return q();}proc q(){return(x*2);}main{out 1;x=10;return 5;out 2;}}",
		"module b{use a;pub var y;pub proc p(n){y=n;return a.p((n+1));}main{out a.x;y=p(3);return 0;}}",
		"module c{var z;main{z=77;}}",
		"module d{use b;use a;array u[2];main{u[1]=(b.y+a.t[1]);out b.p(100);a.t[0]=6;b.y=(b.y+1);}}")
	want := api.Result{Out: []int{1, 10, 4, 101, 230}, Data: []int{115, 6, 115, 101, 77, 0, 42}, Ticks: 10}
	if r := run(t, l); !same(r, want) {
		t.Errorf("%+v, must be %+v", r, want)
	}
}

// D4: how each run ends, and what it tells then.
func TestEnds(t *testing.T) {
	const begin = "module m{var v;array t[3];proc s(x){out x;return x;}proc z(){return(1/0);}proc o(){return t[3];}proc r(){v=(v+1);r();}main{out 1;"
	type w = api.Result
	for s, want := range map[string]w{
		"out 2;":                 {Out: []int{1, 2}, Data: []int{0, 0, 0, 0}, Ticks: 1},
		"v=(1/0);out 2;":         {End: api.ByZero, Out: []int{1}, Data: []int{0, 0, 0, 0}, Ticks: 1},
		"v=(1%0);":               {End: api.ByZero, Out: []int{1}, Data: []int{0, 0, 0, 0}, Ticks: 1},
		"v=(0/0);":               {End: api.ByZero, Out: []int{1}, Data: []int{0, 0, 0, 0}, Ticks: 1},
		"v=7;v=(s(2)/s(0));":     {End: api.ByZero, Out: []int{1, 2, 0}, Data: []int{7, 0, 0, 0}, Ticks: 3},
		"out z();":               {End: api.ByZero, Out: []int{1}, Data: []int{0, 0, 0, 0}, Ticks: 2},
		"while z(){}":            {End: api.ByZero, Out: []int{1}, Data: []int{0, 0, 0, 0}, Ticks: 2},
		"out t[3];":              {End: api.Outside, Out: []int{1}, Data: []int{0, 0, 0, 0}, Ticks: 1},
		"out t[(0-1)];":          {End: api.Outside, Out: []int{1}, Data: []int{0, 0, 0, 0}, Ticks: 1},
		"t[3]=1;":                {End: api.Outside, Out: []int{1}, Data: []int{0, 0, 0, 0}, Ticks: 1},
		"t[(0-1)]=1;":            {End: api.Outside, Out: []int{1}, Data: []int{0, 0, 0, 0}, Ticks: 1},
		"t[1099511627775]=1;":    {End: api.Outside, Out: []int{1}, Data: []int{0, 0, 0, 0}, Ticks: 1},
		"o();":                   {End: api.Outside, Out: []int{1}, Data: []int{0, 0, 0, 0}, Ticks: 2},
		"r();":                   {End: api.TooDeep, Out: []int{1}, Data: []int{api.MaxCalls - 1, 0, 0, 0}, Ticks: api.MaxCalls + 1},
		"while 1{v=(v+1);}":      {End: api.NoTicks, Out: []int{1}, Data: []int{api.MaxTicks - 1, 0, 0, 0}, Ticks: api.MaxTicks},
		"while 1{v=(v+1);s(1);}": {End: api.FullOut, Out: repeat(1, api.MaxOut), Data: []int{api.MaxOut, 0, 0, 0}, Ticks: 2*api.MaxOut + 1},
	} {
		wantRun(t, begin+s+"}}", nil, want)
	}
}

// D4: which end comes first, where two could.
func TestFirstEnd(t *testing.T) {
	const begin = "module m{var v;array t[3];proc one(x){return x;}proc r(n){v=(v+1);if n{r((n-1));}else{"
	deep := func(inner, main string) string { return begin + inner + "}}main{" + main + "}}" }
	for s, want := range map[string]int{
		"t[3]=(1/0);":          api.Outside, // of Put the index ahead of the number
		"t[(1/0)]=t[3];":       api.ByZero,
		"t[0]=(1/0);":          api.ByZero,
		"out t[(1/0)];":        api.ByZero,
		"out((1/0)+t[3]);":     api.ByZero,
		"out(t[3]+(1/0));":     api.Outside,
		"out(t[3]/0);":         api.Outside,
		"one((1/0));":          api.ByZero,
		"out one(t[9]);":       api.Outside,
		"if(1/0){out t[3];}":   api.ByZero,
		"return t[3];":         api.Outside,
		"out(1/0);":            api.ByZero,
		"while(1/0){v=t[3];}":  api.ByZero,
		"while t[3]{v=(1/0);}": api.Outside,
	} {
		if r := run(t, program(t, deep("v=v;", s))); r.End != want {
			t.Errorf("%s: %+v, must end by %d", s, r, want)
		}
	}
	// Main is one call, r(n) has n + 1 more; one() in the innermost is one more.
	for n, want := range map[int]int{api.MaxCalls - 3: api.Ended, api.MaxCalls - 2: api.TooDeep} {
		for _, inner := range []string{"one(1);", "v=one(1);", "if one(1){}"} {
			r := run(t, program(t, deep(inner, fmt.Sprintf("r(%d);", n))))
			if r.End != want || r.Ticks != n+3 {
				t.Errorf("r(%d): %+v, must end by %d", n, r, want)
			}
		}
	}
	full := fmt.Sprintf("r(%d);", api.MaxCalls-2)
	for inner, want := range map[string]int{"one((1/0));": api.ByZero, "v=one(t[3]);": api.Outside} { // arguments are ahead of both
		l := program(t, deep(inner, full))
		if r := run(t, l); r.End != want || r.Ticks != api.MaxCalls {
			t.Errorf("%s: %+v, must end by %d", inner, r, want)
		}
		if r, _ := Run(l, nil, api.MaxCalls); r.End != want || r.Ticks != api.MaxCalls {
			t.Errorf("%s without a tick more: %+v, must end by %d", inner, r, want)
		}
	}
	l := program(t, deep("one(1);", full)) // the tick is ahead of how deep it is
	for ticks, want := range map[int]int{api.MaxCalls: api.NoTicks, api.MaxCalls + 1: api.TooDeep} {
		if r, _ := Run(l, nil, ticks); r.End != want || r.Ticks != ticks {
			t.Errorf("%d ticks: %+v, must end by %d", ticks, r, want)
		}
	}
	// What is told is worked out ahead of how many are told.
	l = program(t, "module m{var v;main{while(v<200){out v;v=(v+1);}out(1/in);}}")
	for in, want := range map[int]int{0: api.ByZero, 1: api.FullOut} {
		if r := run(t, l, in); r.End != want || len(r.Out) != api.MaxOut {
			t.Errorf("%d handed: %+v", in, r)
		}
	}
}

// D4: MaxOut numbers may be told.
func TestFullOut(t *testing.T) {
	for n, want := range map[int]int{api.MaxOut - 1: api.Ended, api.MaxOut: api.Ended, api.MaxOut + 1: api.FullOut} {
		r := run(t, program(t, "module m{var v;var n;main{n=in;while(v<n){v=(v+1);out v;}}}"), n)
		if r.End != want || len(r.Out) != min(n, api.MaxOut) || r.Out[len(r.Out)-1] != min(n, api.MaxOut) || !slices.Equal(r.Data, []int{n, n}) || r.Ticks != n+1 {
			t.Errorf("%d told: %+v", n, r)
		}
	}
}

// D4: calls in one another are counted, not calls one behind the other; a main is one, of each unit.
func TestCalls(t *testing.T) {
	s := "module m{var v;proc p(){v=(v+1);}main{while(v<100){p();}}}"
	wantRun(t, s, nil, api.Result{Data: []int{100}, Ticks: 201})
	a := "module a{pub proc r(n){if n{r((n-1));}}main{r(%d);}}"
	b := "module b{use a;main{a.r(%d);}}"
	for _, c := range [][3]int{{22, 22, api.Ended}, {22, 23, api.TooDeep}, {23, 0, api.TooDeep}} {
		r := run(t, program(t, fmt.Sprintf(a, c[0]), fmt.Sprintf(b, c[1])))
		if r.End != c[2] {
			t.Errorf("%v: %+v", c, r)
		}
	}
	// Calls in arguments are over ahead of the call that they are for.
	r := run(t, program(t, "module m{proc r(n,m){if n{return r((n-1),r(0,0));}return m;}main{out r(22,r(22,5));}}"))
	if r.End != api.Ended || !slices.Equal(r.Out, []int{0}) || r.Ticks != 91 {
		t.Errorf("%+v", r)
	}
	r = run(t, program(t, "module m{proc r(n,m){if n{return r((n-1),m);}return m;}main{out r(22,r(22,5));}}"))
	if r.End != api.Ended || !slices.Equal(r.Out, []int{5}) || r.Ticks != 47 {
		t.Errorf("%+v", r)
	}
}

// D4: each call and each beginning of a While's Body is a tick, and nothing else is.
func TestTicks(t *testing.T) {
	for s, want := range map[string]int{
		"":                          1,
		"out(1+2);":                 1,
		"if 1{out 1;}":              1,
		"while 0{}":                 1,
		"p();":                      2,
		"out p();":                  2,
		"out(p()+p());":             3,
		"v=2;while v{v=(v-1);}":     3,
		"v=2;while v{v=(v-1);p();}": 5,
		"while p(){}":               2,
		"out(0&p());":               1,
	} {
		l := program(t, "module m{var v;proc p(){}main{"+s+"}}")
		for ticks := range want + 3 {
			r, e := Run(l, nil, ticks)
			end := api.Ended
			if ticks < want {
				end = api.NoTicks
			}
			if e != api.OK || r.End != end || r.Ticks != min(ticks, want) {
				t.Errorf("%s with %d ticks: %+v %d, it needs %d", s, ticks, r, e, want)
			}
		}
	}
	// Of several mains each is a tick.
	l := program(t, "module a{main{out 1;}}", "module b{main{out 2;}}", "module c{main{out 3;}}")
	for ticks := range 4 {
		r, _ := Run(l, nil, ticks)
		if want := []int{1, 2, 3}[:ticks]; !slices.Equal(r.Out, want) || (r.End == api.Ended) != (ticks == 3) || r.Ticks != ticks {
			t.Errorf("%d ticks: %+v", ticks, r)
		}
	}
}

// D4: errors of Run, at their bounds, and in their order.
func TestRunErrors(t *testing.T) {
	l := program(t, "module m{main{out in;}}")
	for _, c := range []struct {
		what  string
		l     []api.Unit
		in    int
		ticks int
		want  api.Errno
	}{
		{"all", l, api.MaxIn, api.MaxTicks, api.OK},
		{"nothing", l, 0, 0, api.OK},
		{"too many numbers", l, api.MaxIn + 1, 0, api.ErrMany},
		{"far too many numbers", l, 1 << 16, 0, api.ErrMany},
		{"ticks below 0", l, 0, -1, api.ErrRange},
		{"too many ticks", l, 0, api.MaxTicks + 1, api.ErrRange},
		{"far too many ticks", l, 0, math.MaxInt64, api.ErrRange},
		{"far too few ticks", l, 0, math.MinInt64, api.ErrRange},
		{"many ahead of range", l, api.MaxIn + 1, -1, api.ErrMany},
		{"units ahead of many", named("a", "a"), api.MaxIn + 1, -1, api.ErrThere},
		{"round ahead of many", uses([]string{"a", "b"}), api.MaxIn + 1, -1, api.ErrRound},
		{"form ahead of many", named("A"), api.MaxIn + 1, -1, api.ErrForm},
		{"form ahead of range", named("A"), 0, -1, api.ErrForm},
		{"no units ahead of range", nil, 0, -1, api.ErrMany},
	} {
		r, e := Run(c.l, make([]int, c.in), c.ticks)
		if e != c.want || e != api.OK && !same(r, api.Result{}) {
			t.Errorf("%s: %+v %d, must be %d", c.what, r, e, c.want)
		}
	}
}

// D1, D2: units by hand may have what no text has: data that lies over an array, elements over one another.
func TestByHand(t *testing.T) {
	l := []api.Unit{{Name: "a", Data: api.MaxData, Main: []api.Act{
		{Op: api.Put, N: 32, At: 480, Args: []api.Node{num(31), num(5)}},
		{Op: api.Set, At: 500, Args: []api.Node{num(6)}},
		out(api.Node{Op: api.Var, At: 511}),
		out(api.Node{Op: api.Elem, N: 1, At: 500, Args: []api.Node{num(0)}}),
		out(api.Node{Op: api.Elem, N: 30, At: 480, Args: []api.Node{num(30)}}),
	}}}
	r := run(t, l)
	if r.End != api.Outside || !slices.Equal(r.Out, []int{5, 6}) || len(r.Data) != api.MaxData || r.Data[511] != 5 || r.Data[500] != 6 || r.Ticks != 1 {
		t.Errorf("%+v", r)
	}
}
