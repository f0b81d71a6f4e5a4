package whole_test

import (
	"slices"
	"testing"

	"bellwright/api"
	"bellwright/build"
	"bellwright/gen"
	"bellwright/lex"
	"bellwright/link"
	"bellwright/mach"
	"bellwright/obj"
	"bellwright/order"
	"bellwright/peep"
	"bellwright/sem"
	"bellwright/tree"
	"bellwright/whole"
)

// These tests are of the document's section 'What the whole promises', each of many programs.

var someTicks = []int{0, 1, 2, 5, 17, 60, 400, api.MaxTicks}

// M2: Exec tells what Mean tells, also where a run ends in the midst, and in whatever order the texts are.
func TestExecIsMean(t *testing.T) {
	ends := map[int]int{}
	some(t, 1000, func(g maker, l []string) {
		in, turn := g.in(), slices.Clone(l)
		g.Shuffle(len(turn), func(i, k int) { turn[i], turn[k] = turn[k], turn[i] })
		for _, ticks := range someTicks {
			x, e := whole.Mean(l, in, ticks)
			y, d := whole.Exec(turn, in, ticks)
			if e != api.OK || d != api.OK || !same(x, y) {
				t.Fatalf("with %v and %d ticks Mean tells %+v %d, Exec %+v %d, of\n%s", in, ticks, x, e, y, d, texts(l))
			}
			ends[x.End]++
		}
	})
	for end := api.Ended; end <= api.FullOut; end++ {
		if ends[end] < 20 {
			t.Errorf("only %d runs end by %d: %v", ends[end], end, ends)
		}
	}
}

// With more ticks the same comes, or what is told first is what was told.
func TestMoreTicks(t *testing.T) {
	some(t, 300, func(g maker, l []string) {
		in := g.in()
		last := api.Result{End: api.NoTicks}
		for _, ticks := range someTicks {
			r, _ := whole.Exec(l, in, ticks)
			if last.End != api.NoTicks && !same(r, last) || len(r.Out) < len(last.Out) || !slices.Equal(r.Out[:len(last.Out)], last.Out) {
				t.Fatalf("with %d ticks %+v, with fewer %+v, of\n%s", ticks, r, last, texts(l))
			}
			last = r
		}
	})
}

// What is shown is parsed as it was; what is parsed is shown by the same tokens.
func TestShown(t *testing.T) {
	some(t, 300, func(g maker, l []string) {
		for _, s := range l {
			m, e := tree.Parse(s)
			shown, d := tree.Show(m)
			tokens, _ := lex.Lex(s)
			want, _ := lex.Show(tokens)
			if e != api.OK || d != api.OK || shown != want {
				t.Fatalf("%q is shown as %q", s, shown)
			}
			if again, e := tree.Parse(shown); len(shown) <= api.MaxText && (e != api.OK || !same(again, m)) {
				t.Fatalf("%q is parsed as %+v %d", shown, again, e)
			}
		}
	})
}

// What is resolved is a right program; linked code does what it means; what is peeped does the same, with no more steps.
func TestSteps(t *testing.T) {
	changed, fewer := 0, 0
	some(t, 1000, func(g maker, l []string) {
		in := g.in()
		units, e := build.Units(l)
		m, d := build.Build(l)
		p, c := peep.Peep(m)
		if e != api.OK || d != api.OK || c != api.OK || sem.Check(units) != api.OK || len(p.Code) != len(m.Code) || p.Data != m.Data {
			t.Fatalf("Units %d, Build %d, Peep %d, Check %d of\n%s", e, d, c, sem.Check(units), texts(l))
		}
		if !slices.Equal(p.Code, m.Code) {
			changed++
		}
		for _, ticks := range someTicks {
			want, _ := sem.Run(units, in, ticks)
			x, steps, _ := mach.Run(m, in, ticks, api.MaxSteps)
			y, n, _ := mach.Run(p, in, ticks, api.MaxSteps)
			if !same(x, want) || !same(y, want) || n > steps {
				t.Fatalf("with %v and %d ticks it means %+v, linked it tells %+v by %d steps, peeped %+v by %d, of\n%s", in, ticks, want, x, steps, y, n, texts(l))
			}
			if n < steps {
				fewer++
			}
		}
	})
	if changed < 700 || fewer < 30 {
		t.Errorf("only %d are changed, %d do fewer steps", changed, fewer)
	}
}

// Of each part's code all jumps stay in it.
func TestJumpsStay(t *testing.T) {
	some(t, 300, func(g maker, l []string) {
		units, _ := build.Units(l)
		for _, u := range units {
			o, e := gen.Gen(u)
			if e != api.OK {
				t.Fatalf("Gen of %+v: %d", u, e)
			}
			begins := append(slices.Clone(o.Entries), o.Main, len(o.Code))
			for i, end := range begins[1:] {
				for at := begins[i]; at < end; at++ {
					if c := o.Code[at]; (c.Op == api.OpJump || c.Op == api.OpZero) && (c.A < begins[i] || c.A >= end) {
						t.Fatalf("%+v at %d leaves %d to %d", c, at, begins[i], end)
					}
				}
			}
		}
	})
}

// L3: compiled one by one and linked, modules are what Build tells, in whatever order the texts are.
func TestOneByOne(t *testing.T) {
	linked := 0
	some(t, 300, func(g maker, l []string) {
		want, e := build.Build(l)
		for _, turn := range orders(l) {
			if m, d := build.Build(turn); e != api.OK || d != api.OK || !same(m, want) {
				t.Fatalf("Build %d and %d of\n%s", e, d, texts(turn))
			}
		}
		objects, ok := compiled(t, l)
		if !ok { // too many bytes
			return
		}
		linked++
		if m, e := link.Link(objects); e != api.OK || !same(m, want) {
			t.Fatalf("Link of what is compiled: %d, %+v, must be %+v", e, m, want)
		}
	})
	if linked < 200 {
		t.Errorf("only %d programs are linked", linked)
	}
}

// compiled tells the objects of texts, each of which is compiled alone, of faces and objects as bytes.
func compiled(t *testing.T, l []string) ([]api.Object, bool) {
	t.Helper()
	var mods []api.Module
	for _, s := range l {
		m, _ := tree.Parse(s)
		mods = append(mods, m)
	}
	numbers, e := order.Sort(mods)
	if e != api.OK {
		t.Fatalf("Sort: %d", e)
	}
	faces := map[string]string{}
	var objects []api.Object
	for _, i := range numbers {
		var uses []string
		for _, use := range mods[i].Uses {
			uses = append(uses, faces[use])
		}
		f, b, e := build.Compile(l[i], uses)
		if e == api.ErrMany {
			return nil, false
		}
		o, d := obj.Read(b)
		if e != api.OK || d != api.OK {
			t.Fatalf("Compile %d, Read %d of %s", e, d, l[i])
		}
		faces[mods[i].Name], objects = f, append(objects, o)
	}
	return objects, true
}

// P1: whatever is handed in, nothing panics, and an error comes with nothing beside.
func TestAnything(t *testing.T) {
	count := map[api.Errno]int{}
	some(t, 600, func(g maker, l []string) {
		for range g.Intn(3) {
			i := g.Intn(len(l))
			from, to := g.Intn(len(l[i])+1), g.Intn(len(l[i])+1)
			l[i] = l[i][:from] + g.one("", l[i][to:], l[i][from:], "x", "\xff", "use b;"+l[i][from:])
		}
		in, ticks := make([]int, g.Intn(2*api.MaxIn)), []int{-1, 0, 7, api.MaxTicks, 1 << 40}[g.Intn(5)]
		x, e := whole.Mean(l, in, ticks)
		y, d := whole.Exec(l, in, ticks)
		count[e]++
		if e != api.OK && (!same(x, api.Result{}) || d != e) || d != api.OK && !same(y, api.Result{}) || d == api.OK && !same(x, y) {
			t.Fatalf("Mean %+v %d, Exec %+v %d of\n%s", x, e, y, d, texts(l))
		}
	})
	for _, e := range []api.Errno{api.OK, api.ErrForm, api.ErrMany, api.ErrRange} {
		if count[e] < 20 {
			t.Errorf("only %d tell %d: %v", count[e], e, count)
		}
	}
}
