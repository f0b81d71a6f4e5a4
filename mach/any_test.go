package mach

import (
	"math/rand"
	"slices"
	"testing"

	"bellwright/api"
)

// maker makes images by chance, the same each time.
type maker struct{ *rand.Rand }

// number tells one, seldom one far off.
func (g maker) number() int {
	if g.Intn(12) == 0 {
		return []int{-1, 1 << 32, 1<<63 - 1, -1 << 63, api.MaxStack, api.MaxStack + 1}[g.Intn(6)]
	}
	return g.Intn(4)
}

func (g maker) instr(size int) api.Instr {
	i := ins(1+g.Intn(22), g.number(), g.number())
	if g.Intn(2) == 0 { // else the stack is empty too often
		i.Op = []int{api.OpPush, api.OpIn, api.OpLoad, api.OpOut, api.OpMath, api.OpEnter}[g.Intn(6)]
	}
	switch i.Op {
	case api.OpMath:
		i.A = api.Add + g.Intn(7)
	case api.OpEnter:
		i.A = g.Intn(2)
	case api.OpJump, api.OpZero, api.OpCall:
		i.A = g.Intn(size + 1)
	}
	if g.Intn(40) == 0 {
		i.A, i.B = g.number(), g.number()
	}
	return i
}

// image tells a right one, which has something on the stack at first.
func (g maker) image() api.Image {
	m := api.Image{Data: g.Intn(5), Code: code(ins(api.OpEnter, 0, 3), times(g.Intn(6), push(g.Intn(3))))}
	size := len(m.Code) + 3 + g.Intn(30)
	for len(m.Code) < size {
		m.Code = append(m.Code, g.instr(size))
	}
	return m
}

func (g maker) in() []int {
	l := make([]int, g.Intn(6))
	for i := range l {
		l[i] = g.number()
	}
	return l
}

// F4: with more steps the same comes, if it did not end by NoSteps; else what is told first is what was told. P3: the same each time.
func TestMoreSteps(t *testing.T) {
	count := map[int]int{}
	for seed := range 6000 {
		g := maker{rand.New(rand.NewSource(int64(seed)))}
		m, in, ticks := g.image(), g.in(), []int{0, 3, 50, api.MaxTicks}[g.Intn(4)]
		var last api.Result
		last.End = api.NoSteps
		done := 0
		for _, steps := range []int{0, 1, 2, 3, 5, 8, 13, 21, 34, 55, 89, 500, 5000} {
			r, n, e := Run(m, in, ticks, steps)
			again, k, _ := Run(m, in, ticks, steps)
			if e != api.OK || !same(r, again) || n != k {
				t.Fatalf("%d steps: %+v %d %d, then %+v %d", steps, r, n, e, again, k)
			}
			if len(r.Data) != m.Data || r.Ticks > ticks || n > steps || len(r.Out) > api.MaxOut || (r.End == api.NoSteps) && n != steps || r.End == api.NoTicks && r.Ticks != ticks || r.Ticks > n {
				t.Fatalf("%d steps, %d ticks of %+v: %+v %d", steps, ticks, m, r, n)
			}
			if last.End != api.NoSteps && (!same(r, last) || n != done) {
				t.Fatalf("%d steps of %+v: %+v %d, with fewer %+v %d", steps, m, r, n, last, done)
			}
			if r.Ticks < last.Ticks || n < done || len(r.Out) < len(last.Out) || !slices.Equal(r.Out[:len(last.Out)], last.Out) {
				t.Fatalf("%d steps of %+v: %+v, with fewer %+v", steps, m, r, last)
			}
			last, done = r, n
		}
		count[last.End]++
		exactly(t, m, in, ticks, last, done)
	}
	for end := api.Ended; end <= api.NoSteps; end++ {
		if count[end] < 10 {
			t.Errorf("only %d runs end by %d: %v", count[end], end, count)
		}
	}
}

// exactly: with as many steps as were done the same comes, with one less NoSteps.
func exactly(t *testing.T, m api.Image, in []int, ticks int, last api.Result, done int) {
	t.Helper()
	if last.End == api.NoSteps {
		return
	}
	if r, n, e := Run(m, in, ticks, done); e != api.OK || n != done || !same(r, last) {
		t.Fatalf("with as many steps: %+v %d %d, must be %+v %d", r, n, e, last, done)
	}
	if r, n, e := Run(m, in, ticks, done-1); e != api.OK || n != done-1 || r.End != api.NoSteps {
		t.Fatalf("with one step less: %+v %d %d", r, n, e)
	}
}

// P1, P2: whatever is handed in, nothing panics; an error comes with nothing beside; what was handed in stays as it was, with the spare room behind it.
func TestAnything(t *testing.T) {
	count := map[api.Errno]int{}
	for seed := range 4000 {
		g := maker{rand.New(rand.NewSource(int64(seed)))}
		m, in, ticks, steps := g.image(), g.in(), g.number(), 10*g.number()
		switch g.Intn(8) {
		case 0:
			m.Code[g.Intn(len(m.Code))].Op = g.number() * 6
		case 1:
			m.Data = g.number()
		case 2:
			m.Code = m.Code[:0]
		case 3:
			in = make([]int, api.MaxIn-1+g.Intn(3))
		}
		for i := range m.Code {
			if g.Intn(9) == 0 {
				m.Code[i].A, m.Code[i].B = int(g.Uint64()), int(g.Uint64())
			}
		}
		m.Code = append(m.Code, ins(77, 7, 7), ins(78, 8, 8))
		in = append(in, 99, 98)
		codeWas, inWas := slices.Clone(m.Code), slices.Clone(in)
		m.Code, in = m.Code[:len(m.Code)-2], in[:len(in)-2]
		c := Check(m)
		r, n, e := Run(m, in, ticks, steps)
		count[e]++
		if c != api.OK && c != e || e != api.OK && (!same(r, api.Result{}) || n != 0) {
			t.Fatalf("Check %d, Run %+v %d %d of %+v", c, r, n, e, m)
		}
		if !slices.Equal(m.Code[:len(codeWas)], codeWas) || !slices.Equal(in[:len(inWas)], inWas) {
			t.Fatalf("what was handed in is changed: %+v, %v", m, in)
		}
	}
	for _, e := range []api.Errno{api.OK, api.ErrMany, api.ErrRange, api.ErrKind} {
		if count[e] < 50 {
			t.Errorf("only %d runs tell %d: %v", count[e], e, count)
		}
	}
}

// P2, P3: an answer is the caller's: a change of it is seen nowhere; nor is a later change of what was handed in seen in it.
func TestAnswers(t *testing.T) {
	m := api.Image{Code: code(read, out, push(7), ins(api.OpSave, 0), push(8), out, halt), Data: 2}
	in := []int{5}
	first, _, _ := Run(m, in, 0, 99)
	second, _, _ := Run(m, in, 0, 99)
	for i := range first.Out[:cap(first.Out)] {
		first.Out[:cap(first.Out)][i] = 99
	}
	if slices.Contains(first.Data[:cap(first.Data)], 99) || in[0] != 5 {
		t.Error("Out shares memory")
	}
	for i := range first.Data[:cap(first.Data)] {
		first.Data[:cap(first.Data)][i] = 98
	}
	if slices.Contains(first.Out[:cap(first.Out)], 98) || in[0] != 5 {
		t.Error("Data shares memory")
	}
	third, _, _ := Run(m, in, 0, 99)
	in[0], m.Code[2].A, m.Data = 1, 2, 3
	want := api.Result{Out: []int{5, 8}, Data: []int{7, 0}}
	if !same(second, want) || !same(third, want) {
		t.Errorf("%+v and %+v, must be %+v", second, third, want)
	}
}
