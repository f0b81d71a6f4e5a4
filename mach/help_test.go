package mach

import (
	"fmt"
	"slices"
	"testing"

	"bellwright/api"
)

// ins tells an instruction: of an Op, and A and B, if they are told.
func ins(op int, ab ...int) api.Instr {
	ab = append(slices.Clone(ab), 0, 0)
	return api.Instr{Op: op, A: ab[0], B: ab[1]}
}

func push(n int) api.Instr { return ins(api.OpPush, n) }

// Instructions without A and B.
var (
	halt = ins(api.OpHalt)
	out  = ins(api.OpOut)
	read = ins(api.OpIn)
	drop = ins(api.OpDrop)
	nop  = ins(api.OpNop)
	ret  = ins(api.OpRet)
	tick = ins(api.OpTick)
)

// code puts instructions, and lists of them, one behind the other.
func code(l ...any) []api.Instr {
	var c []api.Instr
	for _, x := range l {
		switch y := x.(type) {
		case api.Instr:
			c = append(c, y)
		case []api.Instr:
			c = append(c, y...)
		}
	}
	return c
}

func times(n int, l ...api.Instr) []api.Instr { return slices.Repeat(l, n) }

// same holds values against each other, of which an empty list may be nil or not.
func same(a, b any) bool { return fmt.Sprintf("%+v", a) == fmt.Sprintf("%+v", b) }

// told is what a run must tell.
type told struct {
	end   int
	out   []int
	data  []int
	ticks int
	steps int
}

// wantRun holds what an image does against what it must; the image has as much data as must be told.
func wantRun(t *testing.T, what string, c []api.Instr, in []int, ticks, steps int, want told) {
	t.Helper()
	r, n, e := Run(api.Image{Code: c, Data: len(want.data)}, in, ticks, steps)
	must := api.Result{End: want.end, Out: want.out, Data: want.data, Ticks: want.ticks}
	if e != api.OK || n != want.steps || !same(r, must) {
		t.Errorf("%s: %+v, %d steps, %d; must be %+v, %d steps", what, r, n, e, must, want.steps)
	}
}

// wantOut holds what code tells, with OpHalt behind it, against what it must; each instruction is done once.
func wantOut(t *testing.T, c []api.Instr, in []int, want ...int) {
	t.Helper()
	r, n, e := Run(api.Image{Code: code(c, halt), Data: 4}, in, api.MaxTicks, 1<<20)
	if e != api.OK || r.End != api.Ended || !slices.Equal(r.Out, want) || n != len(c)+1 {
		t.Errorf("%v with %v: %+v, %d steps, %d; must tell %v", c, in, r, n, e, want)
	}
}

// wantEnd holds how code ends, at its last instruction, against how it must; it has four numbers of data.
func wantEnd(t *testing.T, what string, c []api.Instr, want int) {
	t.Helper()
	r, n, e := Run(api.Image{Code: c, Data: 4}, nil, api.MaxTicks, 1<<20)
	if e != api.OK || r.End != want || n != len(c) {
		t.Errorf("%s: %+v, %d steps, %d; must end by %d at step %d", what, r, n, e, want, len(c))
	}
}
