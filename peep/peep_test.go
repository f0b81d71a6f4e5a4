package peep_test

import (
	"fmt"
	"slices"
	"testing"

	"bellwright/api"
	"bellwright/mach"
	"bellwright/peep"
)

// J1: where jumps and calls go to, what is behind a call, and the first one.
func TestMarks(t *testing.T) {
	for _, c := range []struct {
		code []api.Instr
		want []int
	}{
		{[]api.Instr{halt}, []int{0}},
		{[]api.Instr{nop, nop, nop, halt}, []int{0}},
		{[]api.Instr{jump(2), nop, nop, nop}, []int{0, 2}},
		{[]api.Instr{zero(3), nop, nop, nop}, []int{0, 3}},
		{[]api.Instr{call(3), nop, nop, nop}, []int{0, 1, 3}},
		{[]api.Instr{nop, nop, call(1), nop}, []int{0, 1, 3}},
		{[]api.Instr{nop, jump(1), nop}, []int{0, 1}},                    // to itself
		{[]api.Instr{nop, zero(1), nop}, []int{0, 1}},                    // to itself
		{[]api.Instr{nop, call(1), nop}, []int{0, 1, 2}},                 // to itself
		{[]api.Instr{jump(1), jump(2), jump(3), nop}, []int{0, 1, 2, 3}}, // to one another
		{[]api.Instr{nop, nop, jump(0)}, []int{0}},
		{[]api.Instr{nop, jump(-1), zero(-1), jump(4), zero(4), nop}, []int{0, 4}},
		{[]api.Instr{nop, jump(-1), zero(3), nop}[:3], []int{0}}, // outside
		{[]api.Instr{nop, call(2)}, []int{0}},                    // the last one, outside
		{[]api.Instr{nop, nop, call(1)}, []int{0, 1}},            // the last one
		{[]api.Instr{call(-1), nop}, []int{0, 1}},
		{[]api.Instr{call(0)}, []int{0}},
		{[]api.Instr{nop, call(1 << 32), call(1<<63 - 1), call(-1 << 63), jump(1<<63 - 1), zero(-1 << 63), nop}, []int{0, 2, 3, 4}},
	} {
		if got := marked(t, c.code); !slices.Equal(got, c.want) {
			t.Errorf("marks of %v: %v, must be %v", c.code, got, c.want)
		}
	}
}

// J1: no other operation marks anything.
func TestMarksOfOps(t *testing.T) {
	for op := api.OpPush; op <= api.OpTruth; op++ {
		want := []int{0}
		switch op {
		case api.OpJump, api.OpZero:
			want = []int{0, 4}
		case api.OpCall:
			want = []int{0, 2, 4}
		}
		if got := marked(t, []api.Instr{nop, ins(op, 4, 3), nop, nop, nop}); !slices.Equal(got, want) {
			t.Errorf("marks of %d: %v, must be %v", op, got, want)
		}
	}
}

// J1: as much code as may be.
func TestMarksOfMuch(t *testing.T) {
	code := slices.Repeat([]api.Instr{nop}, api.MaxCode)
	code[5] = jump(api.MaxCode - 1)
	code[6] = call(api.MaxCode)
	if got := marked(t, code); !slices.Equal(got, []int{0, 7, api.MaxCode - 1}) {
		t.Errorf("marks: %v", got)
	}
}

// J1, P1: mach.Check's errors, with nothing beside; which comes first.
func TestErrors(t *testing.T) {
	for i, c := range []struct {
		m    api.Image
		want api.Errno
	}{
		{api.Image{}, api.ErrMany},
		{api.Image{Code: []api.Instr{}, Data: -1}, api.ErrMany},
		{api.Image{Code: slices.Repeat([]api.Instr{nop}, api.MaxCode)}, api.OK},
		{api.Image{Code: slices.Repeat([]api.Instr{nop}, api.MaxCode+1)}, api.ErrMany},
		{api.Image{Code: make([]api.Instr, api.MaxCode+1), Data: -1}, api.ErrMany},
		{api.Image{Code: []api.Instr{ins(0)}}, api.ErrKind},
		{api.Image{Code: []api.Instr{ins(api.OpTruth + 1)}}, api.ErrKind},
		{api.Image{Code: []api.Instr{halt, ins(-1)}, Data: -1}, api.ErrKind},
		{api.Image{Code: []api.Instr{halt}, Data: -1}, api.ErrRange},
		{api.Image{Code: []api.Instr{halt}, Data: api.MaxData}, api.OK},
		{api.Image{Code: []api.Instr{halt}, Data: api.MaxData + 1}, api.ErrRange},
		{api.Image{Code: []api.Instr{push(1), drop}, Data: 1 << 62}, api.ErrRange},
	} {
		l, e := peep.Marks(c.m)
		m, d := peep.Peep(c.m)
		if e != c.want || d != c.want || mach.Check(c.m) != c.want {
			t.Errorf("%d: Marks %d, Peep %d, Check %d, must be %d", i, e, d, mach.Check(c.m), c.want)
		}
		if c.want != api.OK && (len(l) > 0 || !same(m, api.Image{})) {
			t.Errorf("%d: with an error come %v and %v", i, l, m)
		}
	}
}

// J2, rule 2: what comes of two numbers.
func TestMath(t *testing.T) {
	reckon := map[int]func(a, b int) int{
		api.Add:  func(a, b int) int { return a + b },
		api.Sub:  func(a, b int) int { return a - b },
		api.Mul:  func(a, b int) int { return a * b },
		api.Eq:   func(a, b int) int { return map[bool]int{true: 1}[a == b] },
		api.Less: func(a, b int) int { return map[bool]int{true: 1}[a < b] },
	}
	for op := -1; op <= 20; op++ {
		for _, a := range wide {
			for _, b := range wide {
				code := []api.Instr{push(a), push(b), math(op)}
				if f := reckon[op]; f != nil {
					wantCode(t, "math", code, []api.Instr{nop, nop, push(f(a, b))})
				} else {
					wantStays(t, "math that may end, or is none", code...)
				}
			}
		}
	}
}

// J2, rules 3 to 5.
func TestTwo(t *testing.T) {
	for _, n := range wide {
		if n == 0 {
			wantCode(t, "zero", []api.Instr{push(0), zero(3), out, halt}, []api.Instr{nop, jump(3), out, halt})
			wantCode(t, "not", []api.Instr{push(0), not}, []api.Instr{nop, push(1)})
			wantCode(t, "truth", []api.Instr{push(0), truth}, []api.Instr{nop, push(0)})
		} else {
			wantCode(t, "zero", []api.Instr{push(n), zero(3), out, halt}, []api.Instr{nop, nop, out, halt})
			wantCode(t, "not", []api.Instr{push(n), not}, []api.Instr{nop, push(0)})
			wantCode(t, "truth", []api.Instr{push(n), truth}, []api.Instr{nop, push(1)})
		}
		wantCode(t, "drop", []api.Instr{push(n), drop}, []api.Instr{nop, nop})
	}
	for _, to := range []int{-1, 2, 1 << 40, -1 << 63} {
		wantCode(t, "zero to what is outside", []api.Instr{push(0), zero(to)}, []api.Instr{nop, jump(to)})
	}
	wantCode(t, "zero to itself", []api.Instr{push(1), out, push(0), zero(2)}, []api.Instr{push(1), out, nop, jump(2)})
}

// J2: no rule is of other operations, or of fewer.
func TestOthers(t *testing.T) {
	for op := api.OpPush; op <= api.OpTruth; op++ {
		i := ins(op, 7, 8)
		wantStays(t, "one", i)
		wantStays(t, "two of one", i, i)
		wantStays(t, "no push ahead", ins(api.OpIn), i)
		switch op {
		case api.OpPush, api.OpZero, api.OpNot, api.OpTruth, api.OpDrop:
		default:
			wantStays(t, "a push ahead", push(1), i)
			wantStays(t, "a push ahead, math behind", push(1), i, math(api.Add))
		}
	}
	wantStays(t, "pushes alone", push(1), push(2), push(3))
	wantStays(t, "one push and math", ins(api.OpIn), push(2), math(api.Add))
	wantStays(t, "something between", push(1), nop, drop, push(1), nop, not, push(0), nop, zero(2), push(2), nop, push(3), math(api.Add), push(2), push(3), nop, math(api.Add))
}

// J2: what is marked but for the first is no longer one behind the other.
func TestMarked(t *testing.T) {
	three := []api.Instr{push(1), push(2), math(api.Add)}
	two := [][]api.Instr{{push(0), zero(9)}, {push(4), zero(9)}, {push(0), not}, {push(0), truth}, {push(0), drop}}
	for _, to := range []func(int) api.Instr{jump, zero, call} {
		// Code of a jump to a place of what comes behind it, and of one that stands between so that a call marks nothing of it.
		from := func(at int, l []api.Instr) []api.Instr {
			return append([]api.Instr{to(2 + at), out}, l...)
		}
		for at := 1; at < 3; at++ {
			wantStays(t, "three, marked", from(at, three)...)
		}
		wantCode(t, "three, the first marked", from(0, three), from(0, []api.Instr{nop, nop, push(3)}))
		for _, l := range two {
			wantStays(t, "two, marked", from(1, l)...)
		}
		wantCode(t, "two, the first marked", from(0, two[4]), from(0, []api.Instr{nop, nop}))
	}
	// A mark from behind, and from code that nothing leads to, is one too.
	wantStays(t, "marked from behind", push(1), drop, halt, jump(1))
	wantStays(t, "marked from behind", push(1), push(2), math(api.Add), halt, jump(2))
	// What is behind a call.
	wantCode(t, "behind a call", append([]api.Instr{call(0)}, three...), []api.Instr{call(0), nop, nop, push(3)})
	// A jump of what is looked at itself marks it.
	wantStays(t, "zero to itself", push(0), zero(1))
	wantCode(t, "zero to its push", []api.Instr{out, push(0), zero(1)}, []api.Instr{out, nop, jump(1)})
}

// J2: the marks are those of m, though what made them is gone by then.
func TestMarksStay(t *testing.T) {
	wantCode(t, "a zero that is gone", []api.Instr{push(1), zero(4), out, push(5), drop, halt}, []api.Instr{nop, nop, out, push(5), drop, halt})
	wantCode(t, "a jump that goes elsewhere", []api.Instr{jump(2), halt, jump(5), push(5), not, drop, out}, []api.Instr{jump(5), halt, jump(5), nop, push(0), drop, out})
	wantCode(t, "two jumps", []api.Instr{jump(3), push(5), drop, jump(2)}, []api.Instr{jump(2), push(5), drop, jump(2)})
}

// J2, rule 1.
func TestJumps(t *testing.T) {
	for _, c := range []struct {
		what       string
		code, want []api.Instr
	}{
		{"to another jump", []api.Instr{jump(2), halt, jump(4), halt, out}, []api.Instr{jump(4), halt, jump(4), halt, out}},
		{"zero to a jump", []api.Instr{zero(2), halt, jump(4), halt, out}, []api.Instr{zero(4), halt, jump(4), halt, out}},
		{"to a zero", []api.Instr{jump(2), halt, zero(4), halt, out}, []api.Instr{jump(2), halt, zero(4), halt, out}},
		{"a call to a jump", []api.Instr{call(2), halt, jump(4), halt, out}, []api.Instr{call(2), halt, jump(4), halt, out}},
		{"to itself", []api.Instr{out, jump(1), zero(2)}, []api.Instr{out, jump(1), zero(2)}},
		{"to one that goes to itself", []api.Instr{jump(1), jump(1), zero(1)}, []api.Instr{jump(1), jump(1), zero(1)}},
		{"once, forth", []api.Instr{jump(1), jump(2), jump(3), jump(4), halt}, []api.Instr{jump(2), jump(3), jump(4), jump(4), halt}},
		{"once, back", []api.Instr{halt, jump(0), jump(1), jump(2), jump(3), zero(4)}, []api.Instr{halt, jump(0), jump(0), jump(1), jump(2), zero(3)}},
		{"to each other", []api.Instr{jump(1), jump(0)}, []api.Instr{jump(0), jump(1)}},
		{"round", []api.Instr{jump(1), jump(2), jump(0)}, []api.Instr{jump(2), jump(0), jump(1)}},
		{"to what is outside", []api.Instr{jump(-1), zero(4), jump(1 << 50), zero(-1 << 63)}, []api.Instr{jump(-1), zero(4), jump(1 << 50), zero(-1 << 63)}},
		{"to one to what is outside", []api.Instr{jump(1), jump(-7), jump(3), jump(1<<63 - 1)}, []api.Instr{jump(-7), jump(-7), jump(1<<63 - 1), jump(1<<63 - 1)}},
		{"to the last one", []api.Instr{zero(2), halt, jump(1)}, []api.Instr{zero(1), halt, jump(1)}},
	} {
		wantCode(t, c.what, c.code, c.want)
	}
}

// J2: a zero that has become a jump is looked at as one.
func TestNewJumps(t *testing.T) {
	wantCode(t, "shortened itself", []api.Instr{push(0), zero(3), halt, jump(5), halt, out}, []api.Instr{nop, jump(5), halt, jump(5), halt, out})
	wantCode(t, "shortened once", []api.Instr{push(0), zero(3), halt, jump(4), jump(5), out}, []api.Instr{nop, jump(4), halt, jump(5), jump(5), out})
	wantStays(t, "one that a jump goes to", call(3), push(0), zero(5), jump(2), out, halt)
	code := []api.Instr{jump(1), push(0), zero(5), push(1), zero(1), halt}
	wantCode(t, "to the push ahead", code, []api.Instr{jump(1), nop, jump(5), nop, nop, halt})
}

// J2: one rule behind the other, with the code as it is by then.
func TestChains(t *testing.T) {
	for _, c := range []struct {
		what       string
		code, want []api.Instr
	}{
		{"the document's", []api.Instr{push(2), push(3), math(api.Mul), push(4), math(api.Add)}, []api.Instr{nop, nop, nop, nop, push(10)}},
		{"from the left on", []api.Instr{push(9), push(2), push(3), math(api.Sub), math(api.Add)}, []api.Instr{push(9), nop, nop, push(-1), math(api.Add)}},
		{"nots", []api.Instr{push(7), not, not, truth, not}, []api.Instr{nop, nop, nop, nop, push(0)}},
		{"math and not", []api.Instr{push(2), push(2), math(api.Sub), not, drop}, []api.Instr{nop, nop, nop, nop, nop}},
		{"math and zero", []api.Instr{push(2), push(2), math(api.Sub), zero(6), out, halt, jump(5)}, []api.Instr{nop, nop, nop, jump(5), out, halt, jump(5)}},
		{"less and zero", []api.Instr{push(2), push(3), math(api.Less), zero(5), out, halt}, []api.Instr{nop, nop, nop, nop, out, halt}},
		{"truth and math", []api.Instr{push(5), push(2), truth, math(api.Add)}, []api.Instr{push(5), nop, push(1), math(api.Add)}},
		{"drop and drop", []api.Instr{push(5), push(6), drop, drop}, []api.Instr{push(5), nop, nop, drop}},
		{"twice", []api.Instr{push(1), drop, push(1), drop}, []api.Instr{nop, nop, nop, nop}},
		{"the second of three marked on", []api.Instr{push(2), push(3), math(api.Mul), push(4), math(api.Add), jump(3)}, []api.Instr{nop, nop, push(6), push(4), math(api.Add), jump(3)}},
		{"ended by what may end", []api.Instr{push(6), push(0), math(api.Div), push(4), math(api.Add)}, []api.Instr{push(6), push(0), math(api.Div), push(4), math(api.Add)}},
		{"numbers of a division", []api.Instr{push(6), push(1), push(1), math(api.Add), math(api.Div)}, []api.Instr{push(6), nop, nop, push(2), math(api.Div)}},
	} {
		wantCode(t, c.what, c.code, c.want)
	}
}

// J2, P1: of what is laid anew fields that are not named are 0; of all else they stay.
func TestFields(t *testing.T) {
	b := func(i api.Instr) api.Instr { i.B = 77; return i }
	wantCode(t, "math", []api.Instr{b(push(2)), b(push(3)), b(math(api.Add))}, []api.Instr{nop, nop, push(5)})
	wantCode(t, "zero of 0", []api.Instr{b(push(0)), b(zero(3)), out, halt}, []api.Instr{nop, jump(3), out, halt})
	wantCode(t, "zero of 1", []api.Instr{b(push(1)), b(zero(3)), out, halt}, []api.Instr{nop, nop, out, halt})
	wantCode(t, "not", []api.Instr{b(push(1)), ins(api.OpNot, 5, 6)}, []api.Instr{nop, push(0)})
	wantCode(t, "truth", []api.Instr{b(push(7)), ins(api.OpTruth, 5, 6)}, []api.Instr{nop, push(1)})
	wantCode(t, "drop", []api.Instr{b(push(7)), ins(api.OpDrop, 5, 6)}, []api.Instr{nop, nop})
	wantCode(t, "jump", []api.Instr{b(jump(1)), jump(2), halt}, []api.Instr{b(jump(2)), jump(2), halt})
	for op := api.OpPush; op <= api.OpTruth; op++ {
		wantStays(t, fmt.Sprint("Op ", op), ins(op, 5, 6), ins(op, -5, -6), ins(api.OpHalt, 3, 4))
	}
}

// J2: as much code as may be, to its end.
func TestMuch(t *testing.T) {
	code := []api.Instr{push(1)}
	for len(code) < api.MaxCode-1 {
		code = append(code, push(1), math(api.Add))
	}
	code = append(code, drop)
	wantCode(t, "a long sum", code, slices.Repeat([]api.Instr{nop}, api.MaxCode))
}
