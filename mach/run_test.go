package mach

import (
	"fmt"
	"math"
	"slices"
	"testing"

	"bellwright/api"
)

// The document's example: the sum is doubled by a call.
func TestExample(t *testing.T) {
	c := code(read, read, ins(api.OpMath, api.Add), ins(api.OpCall, 6), out, halt, ins(api.OpEnter, 1, 0), ins(api.OpGet, 0), ins(api.OpGet, 0), ins(api.OpMath, api.Add), ret)
	wantRun(t, "the sum, doubled", c, []int{3, 4}, 1, 100, told{out: []int{14}, ticks: 1, steps: 11})
	wantRun(t, "in eleven steps", c, []int{3, 4}, 1, 11, told{out: []int{14}, ticks: 1, steps: 11})
	wantRun(t, "in ten steps", c, []int{3, 4}, 1, 10, told{end: api.NoSteps, out: []int{14}, ticks: 1, steps: 10})
	wantRun(t, "without ticks", c, []int{3, 4}, 0, 100, told{end: api.NoTicks, steps: 4})
}

// F2: OpPush, OpDrop, OpNop, OpIn, OpOut.
func TestStack(t *testing.T) {
	for _, n := range []int{0, 1, -1, api.MaxNumber + 1, math.MaxInt64, math.MinInt64} {
		wantOut(t, code(push(n), out), nil, n)
		wantOut(t, code(read, out), []int{n}, n)
	}
	wantOut(t, code(push(1), push(2), push(3), out, out, out), nil, 3, 2, 1)
	wantOut(t, code(push(1), push(2), drop, out), nil, 1)
	wantOut(t, code(nop, push(5), nop, out, nop), nil, 5)
	wantOut(t, code(read, out, read, out, read, out, read, out), []int{7, -8}, 7, -8, 0, 0)
	wantOut(t, code(read, read, out, out), []int{7, 8}, 8, 7)
	wantOut(t, code(push(9), read, out, out), nil, 0, 9)
	wantOut(t, code(ins(api.OpNop, -5, 99), ins(api.OpIn, -5, 99), ins(api.OpOut, -5, 99)), []int{4}, 4)
}

// F2: OpGet, OpSet, OpLoad, OpSave.
func TestPlaces(t *testing.T) {
	wantOut(t, code(ins(api.OpEnter, 0, 3), ins(api.OpGet, 2), out, push(6), ins(api.OpSet, 2), push(5), ins(api.OpSet, 0), ins(api.OpGet, 2), out, ins(api.OpGet, 1), out, ins(api.OpGet, 0), out), nil, 0, 6, 0, 5)
	c := code(ins(api.OpLoad, 2), out, push(6), ins(api.OpSave, 2), push(-5), ins(api.OpSave, 0), ins(api.OpLoad, 2), out, ins(api.OpLoad, 1), out, halt)
	wantRun(t, "load and save", c, nil, 0, 100, told{out: []int{0, 6, 0}, data: []int{-5, 0, 6}, steps: len(c)})
	// What is taken is gone, what is told on the stack stays where it was.
	wantOut(t, code(push(1), push(2), ins(api.OpSave, 3), out, ins(api.OpLoad, 3), drop, ins(api.OpLoad, 3), out), nil, 1, 2)
	// B is not asked.
	wantOut(t, code(push(8), ins(api.OpSave, 1, -7), ins(api.OpLoad, 1, 99), out), nil, 8)
}

// F2: OpIndex: from 0 to B - 1; the sum goes round.
func TestIndex(t *testing.T) {
	wantOut(t, code(push(0), ins(api.OpIndex, 7, 5), out), nil, 7)
	wantOut(t, code(push(4), ins(api.OpIndex, 7, 5), out), nil, 11)
	wantOut(t, code(push(0), ins(api.OpIndex, -3, 1), out), nil, -3)
	wantOut(t, code(push(1), ins(api.OpIndex, math.MaxInt64, 2), out), nil, math.MinInt64)
	wantOut(t, code(push(math.MaxInt64-1), ins(api.OpIndex, math.MaxInt64, math.MaxInt64), out), nil, -3)
	wantOut(t, code(push(math.MaxInt64-1), ins(api.OpIndex, math.MinInt64, math.MaxInt64), out), nil, -2)
	for _, c := range []struct{ i, b int }{{5, 5}, {6, 5}, {-1, 5}, {0, 0}, {-1, 0}, {0, -1}, {-2, -1}, {0, math.MinInt64}, {math.MaxInt64, math.MinInt64}, {math.MinInt64, math.MinInt64}, {math.MinInt64, math.MaxInt64}, {math.MaxInt64, math.MaxInt64}} {
		wantEnd(t, fmt.Sprintf("index %d of %d", c.i, c.b), code(push(c.i), ins(api.OpIndex, 1, c.b)), api.Outside)
	}
}

// F2: OpFetch, OpStore.
func TestFetchStore(t *testing.T) {
	c := code(push(2), push(8), ins(api.OpStore), push(0), push(9), ins(api.OpStore), push(2), ins(api.OpFetch), out, push(0), ins(api.OpFetch), out, push(1), ins(api.OpFetch), out, halt)
	wantRun(t, "fetch and store", c, nil, 0, 100, told{out: []int{8, 9, 0}, data: []int{9, 0, 8}, steps: len(c)})
	// By an index of an array that lies at 1.
	c = code(read, ins(api.OpIndex, 1, 2), push(7), ins(api.OpStore), push(1), ins(api.OpIndex, 1, 2), ins(api.OpFetch), out, halt)
	wantRun(t, "an element", c, []int{1}, 0, 100, told{out: []int{7}, data: []int{0, 0, 7, 0}, steps: len(c)})
	wantRun(t, "an element outside", c, []int{2}, 0, 100, told{end: api.Outside, data: []int{0, 0, 0, 0}, steps: 2})
}

// F2: OpNot, OpTruth.
func TestTruth(t *testing.T) {
	for _, n := range []int{0, 1, 2, -1, 1 << 32, math.MaxInt64, math.MinInt64} {
		is := 1
		if n == 0 {
			is = 0
		}
		wantOut(t, code(push(n), ins(api.OpNot), out), nil, 1-is)
		wantOut(t, code(push(n), ins(api.OpTruth), out), nil, is)
	}
}

// F2: OpMath: the second one is top; numbers go round.
func TestMath(t *testing.T) {
	for _, c := range []struct{ op, a, b, want int }{
		{api.Add, 3, 4, 7}, {api.Sub, 3, 4, -1}, {api.Mul, 3, -4, -12}, {api.Eq, 3, 3, 1}, {api.Eq, 3, 4, 0}, {api.Less, 3, 4, 1}, {api.Less, 4, 3, 0}, {api.Less, 4, 4, 0}, {api.Less, -1, 0, 1},
		{api.Div, 7, 2, 3}, {api.Div, -7, 2, -3}, {api.Div, 7, -2, -3}, {api.Div, -7, -2, 3}, {api.Div, 0, 3, 0},
		{api.Rem, 7, 2, 1}, {api.Rem, -7, 2, -1}, {api.Rem, 7, -2, 1}, {api.Rem, -7, -2, -1}, {api.Rem, 0, 3, 0},
		{api.Add, math.MaxInt64, 1, math.MinInt64}, {api.Sub, math.MinInt64, 1, math.MaxInt64}, {api.Mul, math.MaxInt64, 2, -2}, {api.Mul, math.MinInt64, -1, math.MinInt64},
		{api.Div, math.MinInt64, -1, math.MinInt64}, {api.Rem, math.MinInt64, -1, 0}, {api.Less, math.MinInt64, math.MaxInt64, 1}, {api.Eq, math.MinInt64, math.MaxInt64, 0},
	} {
		wantOut(t, code(push(99), push(c.a), push(c.b), ins(api.OpMath, c.op), out, out), nil, c.want, 99)
	}
	for _, op := range []int{api.Div, api.Rem} {
		for _, a := range []int{0, 1, -1, math.MinInt64} {
			wantEnd(t, "by zero", code(push(a), push(0), ins(api.OpMath, op)), api.ByZero)
		}
	}
	for _, op := range []int{0, -1, api.Or, api.Less + 1, 99, math.MaxInt64, math.MinInt64, api.Add + 1<<32} {
		wantEnd(t, fmt.Sprintf("math %d", op), code(push(1), push(1), ins(api.OpMath, op)), api.Broken)
	}
}

// F2: OpJump, OpZero.
func TestJumps(t *testing.T) {
	wantRun(t, "a jump ahead", code(ins(api.OpJump, 3), push(1), out, push(2), out, halt), nil, 0, 99, told{out: []int{2}, steps: 4})
	zero := code(read, ins(api.OpZero, 5), push(1), out, halt, push(2), out, halt)
	wantRun(t, "zero", zero, []int{0}, 0, 99, told{out: []int{2}, steps: 5})
	for _, n := range []int{1, -1, 1 << 32, math.MinInt64} {
		wantRun(t, "not zero", zero, []int{n}, 0, 99, told{out: []int{1}, steps: 5})
	}
	// Top is taken either way.
	wantRun(t, "zero takes", code(push(7), push(0), ins(api.OpZero, 3), out, halt), nil, 0, 99, told{out: []int{7}, steps: 5})
	wantRun(t, "not zero takes", code(push(7), push(1), ins(api.OpZero, 0), out, halt), nil, 0, 99, told{out: []int{7}, steps: 5})
	down := code(read, ins(api.OpSave, 0), ins(api.OpLoad, 0), ins(api.OpZero, 11), ins(api.OpLoad, 0), out, ins(api.OpLoad, 0), push(1), ins(api.OpMath, api.Sub), ins(api.OpSave, 0), ins(api.OpJump, 2), halt)
	wantRun(t, "a count down", down, []int{3}, 0, 99, told{out: []int{3, 2, 1}, data: []int{0}, steps: 2 + 3*9 + 3})
	// A jump to where nothing is, which is not taken, is nothing.
	wantRun(t, "not taken", code(push(1), ins(api.OpZero, -1), halt), nil, 0, 99, told{steps: 3})
}

// F2: OpCall, OpEnter, OpRet: each frame has its own locals; the stack is one.
func TestFrames(t *testing.T) {
	c := code(push(1), push(2), push(3), ins(api.OpCall, 7), out, out, halt, ins(api.OpEnter, 2, 1), ins(api.OpGet, 0), out, ins(api.OpGet, 1), out, ins(api.OpGet, 2), out, push(50), ret)
	wantRun(t, "two numbers handed", c, nil, 1, 99, told{out: []int{2, 3, 0, 50, 1}, ticks: 1, steps: 16})
	// The frame that called has its locals behind the call, as they were.
	c = code(ins(api.OpEnter, 0, 2), push(5), ins(api.OpSet, 1), ins(api.OpCall, 7), ins(api.OpGet, 1), out, halt, ins(api.OpEnter, 0, 2), ins(api.OpGet, 1), out, push(6), ins(api.OpSet, 1), ret)
	wantRun(t, "its own locals", c, nil, 1, 99, told{out: []int{0, 5}, ticks: 1, steps: 13})
	// Locals are 0 anew by each OpEnter, of one frame too.
	c = code(push(4), ins(api.OpEnter, 1, 1), push(9), ins(api.OpSet, 1), push(3), ins(api.OpEnter, 0, 2), ins(api.OpGet, 0), out, ins(api.OpGet, 1), out, out, halt)
	wantRun(t, "entered twice", c, nil, 0, 99, told{out: []int{0, 0, 3}, steps: len(c)})
	c = code(ins(api.OpEnter, 0, 4), ins(api.OpEnter, 0, 1), ins(api.OpGet, 1))
	wantEnd(t, "fewer locals", c, api.Broken)
	// A frame that a call makes has no locals, though the one ahead of it has, and one was there by an earlier call.
	c = code(ins(api.OpEnter, 0, 3), ins(api.OpCall, 4), ins(api.OpCall, 7), halt, ins(api.OpEnter, 0, 2), nop, ret, ins(api.OpGet, 0))
	wantRun(t, "no locals", c, nil, 9, 99, told{end: api.Broken, ticks: 2, steps: 7})
	// Locals of a frame that is gone are gone.
	c = code(ins(api.OpEnter, 0, 1), ins(api.OpCall, 4), ins(api.OpGet, 0), ins(api.OpGet, 1), ins(api.OpEnter, 0, 2), ret)
	wantRun(t, "no more locals", c, nil, 9, 99, told{end: api.Broken, ticks: 1, steps: 6})
	wantEnd(t, "the first frame has none", code(ins(api.OpGet, 0)), api.Broken)
	// OpEnter of none, and as many numbers as there are.
	wantOut(t, code(push(7), ins(api.OpEnter), out), nil, 7)
	c = code(push(7), push(8), ins(api.OpEnter, 2, 0), ins(api.OpGet, 0), out, ins(api.OpGet, 1), out, drop)
	wantRun(t, "all are taken", c, nil, 0, 99, told{end: api.Broken, out: []int{7, 8}, steps: 8})
}

// F2: a call in a call goes back to where it came from.
func TestRecursion(t *testing.T) {
	c := code(read, ins(api.OpCall, 4), out, halt,
		ins(api.OpEnter, 1, 0), ins(api.OpGet, 0), ins(api.OpZero, 14), ins(api.OpGet, 0), ins(api.OpGet, 0), push(1), ins(api.OpMath, api.Sub), ins(api.OpCall, 4), ins(api.OpMath, api.Mul), ret,
		push(1), ret)
	for n, want := range []int{1, 1, 2, 6, 24, 120} {
		wantRun(t, "a product", c, []int{n}, 99, 999, told{out: []int{want}, ticks: n + 1, steps: 10*n + 5 + 4})
	}
}

// F2: ticks are of OpTick and OpCall alone.
func TestTicks(t *testing.T) {
	c := code(tick, nop, tick, ins(api.OpCall, 4), halt)
	wantRun(t, "three ticks", c, nil, 3, 99, told{ticks: 3, steps: 5})
	wantRun(t, "of which there are two", c, nil, 2, 99, told{end: api.NoTicks, ticks: 2, steps: 4})
	wantRun(t, "of which there is one", c, nil, 1, 99, told{end: api.NoTicks, ticks: 1, steps: 3})
	wantRun(t, "of which there is none", c, nil, 0, 99, told{end: api.NoTicks, steps: 1})
	wantRun(t, "no tick", code(nop, ins(api.OpJump, 2), halt), nil, 0, 99, told{steps: 3})
}

// F3: each instruction that takes, with too little on the stack.
func TestNothingThere(t *testing.T) {
	for _, c := range []struct {
		i     api.Instr
		takes int
	}{
		{ins(api.OpSet, 0), 1}, {ins(api.OpSave, 0), 1}, {ins(api.OpIndex, 0, 2), 1}, {ins(api.OpFetch), 1}, {ins(api.OpStore), 2}, {ins(api.OpNot), 1}, {ins(api.OpTruth), 1},
		{ins(api.OpMath, api.Add), 2}, {ins(api.OpMath, api.Div), 2}, {ins(api.OpMath, api.Less), 2}, {ins(api.OpZero, 5), 1}, {ins(api.OpEnter, 1, 1), 1}, {ins(api.OpEnter, 3, 0), 3}, {drop, 1}, {out, 1},
	} {
		for n := range c.takes {
			wantEnd(t, fmt.Sprintf("%+v with %d", c.i, n), code(ins(api.OpEnter, 0, 1), times(n, push(1)), c.i), api.Broken)
		}
		l := code(ins(api.OpEnter, 0, 1), times(c.takes, push(1)), c.i)
		r, n, _ := Run(api.Image{Code: l, Data: 4}, nil, 9, len(l))
		if r.End != api.NoSteps || n != len(l) {
			t.Errorf("%+v with %d: %+v %d", c.i, c.takes, r, n)
		}
	}
}

// F3: locals, places and instructions that are none; what was done ahead stays.
func TestNoSuchPlace(t *testing.T) {
	for _, at := range []int{-1, 4, 5, math.MaxInt64, math.MinInt64, 1 << 32} {
		enter := ins(api.OpEnter, 0, 4)
		wantEnd(t, fmt.Sprint("get ", at), code(enter, ins(api.OpGet, at)), api.Broken)
		wantEnd(t, fmt.Sprint("set ", at), code(enter, push(1), ins(api.OpSet, at)), api.Broken)
		wantEnd(t, fmt.Sprint("load ", at), code(ins(api.OpLoad, at)), api.Broken)
		wantEnd(t, fmt.Sprint("save ", at), code(push(1), ins(api.OpSave, at)), api.Broken)
		wantEnd(t, fmt.Sprint("fetch ", at), code(push(at), ins(api.OpFetch)), api.Broken)
		wantEnd(t, fmt.Sprint("store ", at), code(push(at), push(1), ins(api.OpStore)), api.Broken)
	}
	for _, to := range []int{-1, 10, 11, math.MaxInt64, math.MinInt64, 1 << 32} {
		for _, op := range []int{api.OpJump, api.OpZero, api.OpCall} {
			c := code(push(6), ins(api.OpSave, 0), push(7), out, push(0), ins(op, to), nop, nop, nop, nop)
			want := told{end: api.Broken, out: []int{7}, data: []int{6}, steps: 7}
			if op == api.OpCall {
				want.ticks = 1
			}
			wantRun(t, fmt.Sprint("jump ", op, " to ", to), c, nil, 9, 99, want)
			want.end, want.steps = api.NoSteps, 6
			wantRun(t, fmt.Sprint("jump ", op, " to ", to, " in six steps"), c, nil, 9, 6, want)
		}
	}
	wantRun(t, "behind the last one", code(nop), nil, 0, 99, told{end: api.Broken, steps: 2})
	wantRun(t, "behind the last one, in one step", code(nop), nil, 0, 1, told{end: api.NoSteps, steps: 1})
	wantRun(t, "behind a call at the end", code(ins(api.OpJump, 2), ret, ins(api.OpCall, 1)), nil, 1, 99, told{end: api.Broken, ticks: 1, steps: 4})
	wantRun(t, "no data", code(ins(api.OpLoad, 0)), nil, 0, 99, told{end: api.Broken, steps: 1})
	wantRun(t, "ret of the first frame", code(push(1), ret), nil, 0, 99, told{end: api.Broken, steps: 2})
	wantRun(t, "ret of it behind a call", code(ins(api.OpCall, 1), ret), nil, 1, 99, told{end: api.Broken, ticks: 1, steps: 3})
}

// F3: OpEnter with numbers that can't be.
func TestEnter(t *testing.T) {
	most := api.MaxStack
	for _, c := range [][2]int{{-1, 0}, {0, -1}, {-1, 1}, {1, -1}, {-1, -1}, {0, most + 1}, {1, most}, {most + 1, 0}, {most, 1}, {most + 1, -1}, {math.MaxInt64, 0}, {0, math.MaxInt64}, {math.MaxInt64, 1}, {1, math.MaxInt64}, {math.MaxInt64, math.MaxInt64}, {math.MinInt64, math.MinInt64}, {math.MinInt64, 0}, {0, math.MinInt64}, {math.MinInt64, math.MaxInt64}, {math.MaxInt64, math.MinInt64}} {
		wantEnd(t, fmt.Sprint("enter ", c), code(push(1), push(1), ins(api.OpEnter, c[0], c[1])), api.Broken)
	}
	wantOut(t, code(push(3), ins(api.OpEnter, 1, most-1), ins(api.OpGet, 0), out, ins(api.OpGet, most-1), out), nil, 3, 0)
	wantOut(t, code(ins(api.OpEnter, 0, most), ins(api.OpGet, most-1), out), nil, 0)
	wantEnd(t, "get behind", code(ins(api.OpEnter, 0, most), ins(api.OpGet, most)), api.Broken)
}

// F2, F3: OpHalt ends with what lies there.
func TestHalt(t *testing.T) {
	c := code(push(4), ins(api.OpSave, 1), push(5), out, tick, push(6), ins(api.OpCall, 7), halt, out)
	wantRun(t, "halt in a call", c, nil, 9, 99, told{out: []int{5}, data: []int{0, 4}, ticks: 2, steps: 8})
	wantRun(t, "halt alone", code(halt), nil, 0, 1, told{steps: 1})
	r, _, _ := Run(api.Image{Code: code(halt), Data: 3}, nil, 0, 1)
	if !slices.Equal(r.Data, []int{0, 0, 0}) {
		t.Errorf("data is %v in the beginning", r.Data)
	}
}
