package peep_test

import (
	"fmt"
	"slices"
	"testing"

	"bellwright/api"
	"bellwright/peep"
)

// same holds values against each other, of which an empty list may be nil or not.
func same(a, b any) bool { return fmt.Sprintf("%+v", a) == fmt.Sprintf("%+v", b) }

func ins(op int, ab ...int) api.Instr {
	ab = append(ab, 0, 0)
	return api.Instr{Op: op, A: ab[0], B: ab[1]}
}

func push(n int) api.Instr  { return ins(api.OpPush, n) }
func math(op int) api.Instr { return ins(api.OpMath, op) }
func jump(to int) api.Instr { return ins(api.OpJump, to) }
func zero(to int) api.Instr { return ins(api.OpZero, to) }
func call(to int) api.Instr { return ins(api.OpCall, to) }

var (
	nop   = ins(api.OpNop)
	not   = ins(api.OpNot)
	truth = ins(api.OpTruth)
	drop  = ins(api.OpDrop)
	out   = ins(api.OpOut)
	halt  = ins(api.OpHalt)
)

// wide are numbers at which something could go round.
var wide = []int{0, 1, 2, 3, 7, -1, -2, 1 << 31, 1 << 32, 1 << 62, 1<<63 - 1, -1 << 63, -1<<63 + 1}

// wantCode holds what Peep makes of code against what it must.
func wantCode(t *testing.T, what string, code, want []api.Instr) {
	t.Helper()
	m, e := peep.Peep(api.Image{Code: code, Data: 3})
	if e != api.OK || m.Data != 3 || !slices.Equal(m.Code, want) {
		t.Errorf("Peep of %s %v: %v %d, must be %v", what, code, m, e, want)
	}
}

// wantStays asks that code is none that a rule applies to.
func wantStays(t *testing.T, what string, code ...api.Instr) {
	t.Helper()
	wantCode(t, what, code, code)
}

// marked tells the places that Marks tells.
func marked(t *testing.T, code []api.Instr) []int {
	t.Helper()
	l, e := peep.Marks(api.Image{Code: code})
	if e != api.OK || len(l) != len(code) {
		t.Fatalf("Marks of %v: %v %d", code, l, e)
	}
	var at []int
	for i, is := range l {
		if is {
			at = append(at, i)
		}
	}
	return at
}
