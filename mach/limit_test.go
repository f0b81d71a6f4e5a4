package mach

import (
	"fmt"
	"testing"

	"bellwright/api"
)

func wantCheck(t *testing.T, what string, m api.Image, want api.Errno) {
	t.Helper()
	if e := Check(m); e != want {
		t.Errorf("Check of %s: %d, must be %d", what, e, want)
	}
	r, n, e := Run(m, nil, 0, 1)
	if e != want || e != api.OK && (!same(r, api.Result{}) || n != 0) {
		t.Errorf("Run of %s: %+v %d %d, must be %d", what, r, n, e, want)
	}
}

// F1: how much code and data, and which operations; the first of the errors.
func TestCheck(t *testing.T) {
	wantCheck(t, "nothing", api.Image{}, api.ErrMany)
	wantCheck(t, "an empty list", api.Image{Code: []api.Instr{}}, api.ErrMany)
	wantCheck(t, "one", api.Image{Code: code(halt)}, api.OK)
	wantCheck(t, "MaxCode", api.Image{Code: times(api.MaxCode, nop)}, api.OK)
	wantCheck(t, "MaxCode and one", api.Image{Code: times(api.MaxCode+1, nop)}, api.ErrMany)
	for op := -2; op < 30; op++ {
		want := api.OK
		if op < 1 || op > 22 {
			want = api.ErrKind
		}
		wantCheck(t, fmt.Sprint("Op ", op), api.Image{Code: code(ins(op))}, want)
		wantCheck(t, fmt.Sprint("Op ", op, " at the end"), api.Image{Code: code(times(api.MaxCode-1, nop), ins(op))}, want)
	}
	wantCheck(t, "a great Op", api.Image{Code: code(ins(api.OpNop + 1<<32))}, api.ErrKind)
	wantCheck(t, "any A and B", api.Image{Code: code(ins(api.OpJump, -1<<63, -1<<63), ins(api.OpMath, 99), ins(api.OpEnter, -1, 1<<62))}, api.OK)
	for n, want := range map[int]api.Errno{0: api.OK, 1: api.OK, api.MaxData: api.OK, api.MaxData + 1: api.ErrRange, -1: api.ErrRange, -1 << 63: api.ErrRange, 1<<63 - 1: api.ErrRange} {
		wantCheck(t, fmt.Sprint("Data ", n), api.Image{Code: code(halt), Data: n}, want)
	}
	wantCheck(t, "all wrong", api.Image{Code: times(api.MaxCode+1, ins(0)), Data: -1}, api.ErrMany)
	wantCheck(t, "nothing, with wrong data", api.Image{Data: -1}, api.ErrMany)
	wantCheck(t, "an Op and data", api.Image{Code: code(ins(0)), Data: -1}, api.ErrKind)
}

// F3, P1: errors of Run, the first of them, with nothing beside.
func TestErrors(t *testing.T) {
	right := api.Image{Code: code(push(1), out, halt), Data: 1}
	kind, data := api.Image{Code: code(ins(0))}, api.Image{Code: code(halt), Data: -1}
	much := make([]int, api.MaxIn+1)
	for i, c := range []struct {
		m            api.Image
		in           []int
		ticks, steps int
		want         api.Errno
	}{
		{right, much[1:], 0, 0, api.OK},
		{right, much[1:], api.MaxTicks, api.MaxSteps, api.OK},
		{right, much, 0, 0, api.ErrMany},
		{right, nil, -1, 0, api.ErrRange},
		{right, nil, api.MaxTicks + 1, 0, api.ErrRange},
		{right, nil, 0, -1, api.ErrRange},
		{right, nil, 0, api.MaxSteps + 1, api.ErrRange},
		{right, nil, -1 << 63, 1<<63 - 1, api.ErrRange},
		{right, much, -1, -1, api.ErrMany},
		{kind, much, -1, -1, api.ErrKind},
		{data, much, -1, -1, api.ErrRange},
		{data, much, 0, 0, api.ErrRange},
		{api.Image{}, nil, -1, 0, api.ErrMany},
	} {
		r, n, e := Run(c.m, c.in, c.ticks, c.steps)
		if e != c.want || e != api.OK && (!same(r, api.Result{}) || n != 0) {
			t.Errorf("%d: %+v %d %d, must be %d", i, r, n, e, c.want)
		}
	}
}

// F1: as much code as may be is gone through.
func TestMaxCode(t *testing.T) {
	wantRun(t, "to the last one", code(times(api.MaxCode-1, nop), halt), nil, 0, api.MaxSteps, told{steps: api.MaxCode})
	wantRun(t, "behind the last one", times(api.MaxCode, nop), nil, 0, api.MaxSteps, told{end: api.Broken, steps: api.MaxCode + 1})
	wantRun(t, "a jump to it", code(ins(api.OpJump, api.MaxCode-1), times(api.MaxCode-2, nop), halt), nil, 0, 9, told{steps: 2})
}

// F1: as much data as may be.
func TestMaxData(t *testing.T) {
	data := make([]int, api.MaxData)
	data[api.MaxData-1] = 3
	c := code(push(3), ins(api.OpSave, api.MaxData-1), push(api.MaxData-1), ins(api.OpFetch), out, ins(api.OpLoad, api.MaxData))
	wantRun(t, "MaxData", c, nil, 0, 99, told{end: api.Broken, out: []int{3}, data: data, steps: 6})
	c[5] = push(api.MaxData)
	wantRun(t, "fetch behind", code(c, ins(api.OpFetch)), nil, 0, 99, told{end: api.Broken, out: []int{3}, data: data, steps: 7})
}

// F3: as many numbers as may be handed in.
func TestMaxIn(t *testing.T) {
	in := make([]int, api.MaxIn)
	for i := range in {
		in[i] = i + 1
	}
	c := code(times(api.MaxIn+1, read, out), halt)
	wantRun(t, "MaxIn", c, in, 0, 999, told{out: append(in[:api.MaxIn:api.MaxIn], 0), steps: len(c)})
}

// F3: as many ticks as may be.
func TestMaxTicks(t *testing.T) {
	wantRun(t, "MaxTicks", code(tick, ins(api.OpJump, 0)), nil, api.MaxTicks, api.MaxSteps, told{end: api.NoTicks, ticks: api.MaxTicks, steps: 2*api.MaxTicks + 1})
	calls := code(ins(api.OpCall, 2), ins(api.OpJump, 0), ret)
	wantRun(t, "MaxTicks by calls", calls, nil, api.MaxTicks, api.MaxSteps, told{end: api.NoTicks, ticks: api.MaxTicks, steps: 3*api.MaxTicks + 1})
}

// F3: as many steps as may be.
func TestMaxSteps(t *testing.T) {
	wantRun(t, "MaxSteps", code(ins(api.OpJump, 0)), nil, 0, api.MaxSteps, told{end: api.NoSteps, steps: api.MaxSteps})
	for steps := range 5 {
		wantRun(t, fmt.Sprint(steps, " steps"), code(push(1), out, push(2), out, ins(api.OpJump, 4)), nil, 0, steps, told{end: api.NoSteps, out: []int{1, 2}[:steps/2], steps: steps})
	}
}

// F3: as many numbers on the stack as may be.
func TestMaxStack(t *testing.T) {
	// fill goes on behind itself with MaxStack numbers, the last one 1, and the data 0: two of them are left for the end, as the count takes room.
	fill := code(push(api.MaxStack-2), ins(api.OpSave, 0),
		push(1), ins(api.OpLoad, 0), push(1), ins(api.OpMath, api.Sub), ins(api.OpSave, 0), ins(api.OpLoad, 0), ins(api.OpZero, 10), ins(api.OpJump, 2),
		push(1), push(1))
	r, filled, _ := Run(api.Image{Code: code(fill, halt), Data: 1}, nil, 0, 1<<20)
	if r.End != api.Ended || r.Data[0] != 0 {
		t.Fatalf("it is not filled: %+v", r)
	}
	filled--
	for _, i := range []api.Instr{push(1), read, ins(api.OpLoad, 0)} {
		wantRun(t, fmt.Sprintf("one more by %+v", i), code(fill, i, halt), nil, 0, 1<<20, told{end: api.Broken, data: []int{0}, steps: filled + 1})
		wantRun(t, fmt.Sprintf("one less, one more by %+v", i), code(fill, drop, i, halt), nil, 0, 1<<20, told{data: []int{0}, steps: filled + 3})
	}
	for _, i := range []api.Instr{ins(api.OpNot), ins(api.OpTruth), ins(api.OpIndex, 0, 2), ins(api.OpMath, api.Add), ins(api.OpZero, 0), ins(api.OpSave, 0), nop, ins(api.OpEnter, 1, 0), out} {
		r, n, e := Run(api.Image{Code: code(fill, i, halt), Data: 1}, nil, 0, filled+1)
		if e != api.OK || r.End != api.NoSteps || n != filled+1 {
			t.Errorf("%+v with a full stack: %+v %d %d", i, r, n, e)
		}
	}
	// Fetch takes a number, so that there is room.
	wantRun(t, "fetch", code(fill, drop, push(0), ins(api.OpFetch), halt), nil, 0, 1<<20, told{data: []int{0}, steps: filled + 4})
	// Locals are not on the stack: a frame may have as many as that takes.
	wantRun(t, "all into locals", code(fill, ins(api.OpEnter, api.MaxStack, 0), ins(api.OpGet, api.MaxStack-1), out, drop), nil, 0, 1<<20, told{end: api.Broken, out: []int{1}, data: []int{0}, steps: filled + 4})
	wantRun(t, "one more local", code(fill, ins(api.OpEnter, 0, api.MaxStack), ins(api.OpGet, 0), halt), nil, 0, 1<<20, told{end: api.Broken, data: []int{0}, steps: filled + 2})
}

// F2: as many calls in one another as may be; each may have as many locals as may be.
func TestMaxCalls(t *testing.T) {
	wantRun(t, "all by one", code(ins(api.OpCall, 0)), nil, api.MaxTicks, 999, told{end: api.TooDeep, ticks: api.MaxCalls + 1, steps: api.MaxCalls + 1})
	wantRun(t, "with locals", code(ins(api.OpEnter, 0, api.MaxStack), ins(api.OpCall, 0)), nil, api.MaxTicks, 999, told{end: api.TooDeep, ticks: api.MaxCalls + 1, steps: 2*api.MaxCalls + 2})
	// chain calls on and on, so many in one another, then all go back.
	chain := func(calls int) []api.Instr {
		c := code(ins(api.OpCall, 2), halt)
		for i := 1; i < calls; i++ {
			c = append(c, ins(api.OpCall, len(c)+2), ret)
		}
		return append(c, ret)
	}
	wantRun(t, "MaxCalls", chain(api.MaxCalls), nil, api.MaxTicks, 999, told{ticks: api.MaxCalls, steps: 2*api.MaxCalls + 1})
	wantRun(t, "MaxCalls and one", chain(api.MaxCalls+1), nil, api.MaxTicks, 999, told{end: api.TooDeep, ticks: api.MaxCalls + 1, steps: api.MaxCalls + 1})
	// Those that are back do not count.
	c := code(times(3*api.MaxCalls, ins(api.OpCall, 3*api.MaxCalls+1)), halt, ret)
	wantRun(t, "one behind the other", c, nil, api.MaxTicks, 999, told{ticks: 3 * api.MaxCalls, steps: 6*api.MaxCalls + 1})
}

// F2: as many numbers told as may be.
func TestMaxOut(t *testing.T) {
	all := make([]int, api.MaxOut)
	for i := range all {
		all[i] = 5
	}
	wantRun(t, "MaxOut", code(times(api.MaxOut, push(5), out), halt), nil, 0, 999, told{out: all, steps: 2*api.MaxOut + 1})
	wantRun(t, "MaxOut and one", code(times(api.MaxOut, push(5), out), push(6), out, halt), nil, 0, 999, told{end: api.FullOut, out: all, steps: 2*api.MaxOut + 2})
}

// F3: which end comes first where several apply at one instruction.
func TestFirstEnd(t *testing.T) {
	// calls goes MaxCalls deep, each call to the next instruction, then does one more.
	calls := func(more ...api.Instr) []api.Instr {
		var c []api.Instr
		for i := range api.MaxCalls {
			c = append(c, ins(api.OpCall, i+1))
		}
		return append(c, more...)
	}
	n := api.MaxCalls
	full := code(times(api.MaxOut, push(5), out))
	fives := make([]int, api.MaxOut)
	for i := range fives {
		fives[i] = 5
	}
	for _, c := range []struct {
		what         string
		code         []api.Instr
		ticks, steps int
		want         told
	}{
		{"NoTicks ahead of TooDeep", calls(ins(api.OpCall, 0)), n, 99, told{end: api.NoTicks, ticks: n, steps: n + 1}},
		{"TooDeep with a tick more", calls(ins(api.OpCall, 0)), n + 1, 99, told{end: api.TooDeep, ticks: n + 1, steps: n + 1}},
		{"TooDeep ahead of Broken", calls(ins(api.OpCall, -1)), n + 1, 99, told{end: api.TooDeep, ticks: n + 1, steps: n + 1}},
		{"NoTicks ahead of both", calls(ins(api.OpCall, -1)), n, 99, told{end: api.NoTicks, ticks: n, steps: n + 1}},
		{"NoSteps ahead of all", calls(ins(api.OpCall, -1)), n, n, told{end: api.NoSteps, ticks: n, steps: n}},
		{"NoTicks ahead of Broken", code(ins(api.OpCall, -1)), 0, 9, told{end: api.NoTicks, steps: 1}},
		{"a call to none", code(ins(api.OpCall, -1)), 1, 9, told{end: api.Broken, ticks: 1, steps: 2}},
		{"NoSteps ahead of none", code(ins(api.OpCall, -1)), 1, 1, told{end: api.NoSteps, ticks: 1, steps: 1}},
		{"Broken ahead of Outside", code(ins(api.OpIndex, 0, 0)), 0, 9, told{end: api.Broken, steps: 1}},
		{"Broken ahead of ByZero", code(push(0), ins(api.OpMath, api.Div)), 0, 9, told{end: api.Broken, steps: 2}},
		{"so of Rem", code(push(0), ins(api.OpMath, api.Rem)), 0, 9, told{end: api.Broken, steps: 2}},
		{"no Op of OpMath, by 0", code(push(0), push(0), ins(api.OpMath, api.Less+1)), 0, 9, told{end: api.Broken, steps: 3}},
		{"Broken ahead of FullOut", code(full, out), 0, 999, told{end: api.Broken, out: fives, steps: len(full) + 1}},
		{"FullOut", code(full, push(1), out), 0, 999, told{end: api.FullOut, out: fives, steps: len(full) + 2}},
		{"NoSteps ahead of FullOut", code(full, push(1), out), 0, len(full) + 1, told{end: api.NoSteps, out: fives, steps: len(full) + 1}},
		{"NoSteps ahead of Ended", code(halt), 0, 0, told{end: api.NoSteps}},
		{"NoSteps ahead of Broken", code(drop), 0, 0, told{end: api.NoSteps}},
		{"NoSteps ahead of NoTicks", code(tick), 0, 0, told{end: api.NoSteps}},
		{"NoSteps ahead of ByZero", code(push(1), push(0), ins(api.OpMath, api.Div)), 0, 2, told{end: api.NoSteps, steps: 2}},
		{"NoSteps ahead of Outside", code(push(1), ins(api.OpIndex, 0, 1)), 0, 1, told{end: api.NoSteps, steps: 1}},
		{"Outside ahead of going on at none", code(push(1), ins(api.OpIndex, 0, 1)), 0, 9, told{end: api.Outside, steps: 2}},
	} {
		wantRun(t, c.what, c.code, nil, c.ticks, c.steps, c.want)
	}
}
