package peep_test

import (
	"math/rand"
	"slices"
	"testing"

	"bellwright/api"
	"bellwright/mach"
	"bellwright/peep"
)

// maker makes images by chance, the same each time.
type maker struct{ *rand.Rand }

// often are the operations that rules are of, and some that tell what came.
var often = []int{api.OpPush, api.OpPush, api.OpPush, api.OpPush, api.OpMath, api.OpNot, api.OpTruth, api.OpZero, api.OpZero, api.OpJump, api.OpJump, api.OpDrop, api.OpOut, api.OpIn, api.OpSave, api.OpLoad}

func (g maker) instr(size int) api.Instr {
	i := ins(often[g.Intn(len(often))], g.Intn(4), g.Intn(4))
	if g.Intn(6) == 0 {
		i.Op = 1 + g.Intn(api.OpTruth)
	}
	switch i.Op {
	case api.OpPush:
		if g.Intn(8) == 0 {
			i.A = wide[g.Intn(len(wide))]
		}
	case api.OpMath:
		i.A = api.Add + g.Intn(7)
	case api.OpEnter:
		i.A = g.Intn(2)
	case api.OpJump, api.OpZero, api.OpCall:
		i.A = g.Intn(size+2) - 1
	}
	return i
}

// image tells a right one, which has something on the stack at first.
func (g maker) image() api.Image {
	m := api.Image{Data: 4, Code: []api.Instr{ins(api.OpEnter, 0, 3)}}
	for range g.Intn(6) {
		m.Code = append(m.Code, ins(api.OpIn))
	}
	size := len(m.Code) + 3 + g.Intn(30)
	for len(m.Code) < size {
		m.Code = append(m.Code, g.instr(size))
	}
	return m
}

func (g maker) in() []int {
	l := make([]int, g.Intn(9))
	for i := range l {
		l[i] = g.Intn(3)
	}
	return l
}

// J3: what is peeped does the same, with no more steps. (So few steps are let that the stack is never full.)
func TestSame(t *testing.T) {
	const most = api.MaxStack - 1
	changed, fewer, ends := 0, 0, map[int]int{}
	for seed := range 40000 {
		g := maker{rand.New(rand.NewSource(int64(seed)))}
		m, in, ticks := g.image(), g.in(), []int{0, 3, 50, api.MaxTicks}[g.Intn(4)]
		p, e := peep.Peep(m)
		if e != api.OK || len(p.Code) != len(m.Code) || p.Data != m.Data || mach.Check(p) != api.OK {
			t.Fatalf("Peep of %v: %v %d", m, p, e)
		}
		want, steps, _ := mach.Run(m, in, ticks, most)
		got, n, e := mach.Run(p, in, ticks, most)
		if want.End == api.NoSteps {
			continue
		}
		if e != api.OK || !same(got, want) || n > steps {
			t.Fatalf("with %v, %d ticks, %v tells %+v by %d steps, peeped %v %+v by %d", in, ticks, m, want, steps, p, got, n)
		}
		ends[want.End]++
		if n < steps {
			fewer++
		}
		if !slices.Equal(p.Code, m.Code) {
			changed++
		}
	}
	if changed < 10000 || fewer < 500 {
		t.Errorf("only %d are changed, %d do fewer steps", changed, fewer)
	}
	for end := api.Ended; end <= api.Broken; end++ {
		if ends[end] < 100 && end != api.FullOut || ends[end] < 10 {
			t.Errorf("only %d runs end by %d: %v", ends[end], end, ends)
		}
	}
}

// J3: if the stack was as full as may be, what is peeped may go on.
func TestFullStack(t *testing.T) {
	// It is filled but for one number; then two are added and told.
	m := api.Image{Code: []api.Instr{push(2 - api.MaxStack), ins(api.OpSave, 0),
		push(5), ins(api.OpLoad, 0), push(1), math(api.Add), ins(api.OpSave, 0), ins(api.OpLoad, 0), zero(10), jump(2),
		push(5), push(1), push(2), math(api.Add), out, halt}, Data: 1}
	p, _ := peep.Peep(m)
	was, _, _ := mach.Run(m, nil, 0, api.MaxSteps)
	is, _, _ := mach.Run(p, nil, 0, api.MaxSteps)
	if was.End != api.Broken || is.End != api.Ended || !slices.Equal(is.Out, []int{3}) {
		t.Errorf("it was %+v, and is %+v", was, is)
	}
}

// P1, P2: whatever is handed in, nothing panics; an error comes with nothing beside; what was handed in stays, with the spare room behind it.
func TestAnything(t *testing.T) {
	count := map[api.Errno]int{}
	for seed := range 5000 {
		g := maker{rand.New(rand.NewSource(int64(seed)))}
		m := g.image()
		switch g.Intn(6) {
		case 0:
			m.Code[g.Intn(len(m.Code))].Op = wide[g.Intn(len(wide))]
		case 1:
			m.Data = wide[g.Intn(len(wide))]
		case 2:
			m.Code = m.Code[:0]
		}
		for i := range m.Code {
			if g.Intn(4) == 0 {
				m.Code[i].A, m.Code[i].B = wide[g.Intn(len(wide))], int(g.Uint64())
			}
		}
		m.Code = append(m.Code, push(7), not)
		was := slices.Clone(m.Code)
		m.Code = m.Code[:len(m.Code)-2]
		want := mach.Check(m)
		l, e := peep.Marks(m)
		p, d := peep.Peep(m)
		count[e]++
		if e != want || d != want || e != api.OK && (len(l) > 0 || !same(p, api.Image{})) || e == api.OK && len(l) != len(m.Code) {
			t.Fatalf("Marks %v %d, Peep %v %d of %v, Check %d", l, e, p, d, m, want)
		}
		if !slices.Equal(m.Code[:len(was)], was) {
			t.Fatalf("what was handed in is changed: %v, was %v", m.Code[:len(was)], was)
		}
	}
	for _, e := range []api.Errno{api.OK, api.ErrMany, api.ErrKind, api.ErrRange} {
		if count[e] < 50 {
			t.Errorf("only %d tell %d: %v", count[e], e, count)
		}
	}
}

// P2, P3: an answer is the caller's: a change of it is seen nowhere; nor is a later change of what was handed in seen in it.
func TestAnswers(t *testing.T) {
	fresh := func() []api.Instr { return []api.Instr{jump(2), halt, jump(3), out, halt} }
	m := api.Image{Code: fresh(), Data: 1}
	first, _ := peep.Peep(m)
	second, _ := peep.Peep(m)
	for i := range first.Code[:cap(first.Code)] {
		first.Code[:cap(first.Code)][i] = ins(99, 99, 99)
	}
	marks, _ := peep.Marks(m)
	again, _ := peep.Marks(m)
	for i := range marks {
		marks[i] = !marks[i]
	}
	if !slices.Equal(m.Code, fresh()) {
		t.Errorf("a change of an answer is seen in %v", m.Code)
	}
	third, _ := peep.Peep(m)
	for i := range m.Code {
		m.Code[i] = nop
	}
	want := api.Image{Code: []api.Instr{jump(3), halt, jump(3), out, halt}, Data: 1}
	if !same(second, want) || !same(third, want) || !slices.Equal(again, []bool{true, false, true, true, false}) {
		t.Errorf("%v, %v and %v, must be %v", second, third, again, want)
	}
}
