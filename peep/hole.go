package peep

import (
	"bellwright/api"
	"bellwright/reckon"
)

// hole is what the code is looked at through.
type hole struct {
	was   []api.Instr // as it was handed in
	code  []api.Instr // as it is by now
	marks []bool      // of the code as it was
}

// look uses the first rule that applies at a place.
func (h hole) look(at int) {
	n := h.code[at].A
	switch {
	case h.follow(at, api.OpJump), h.follow(at, api.OpZero):
		h.shorten(at)
	case h.follow(at, api.OpPush, api.OpPush, api.OpMath) && neverEnds(h.code[at+2].A):
		known, _ := reckon.Of(h.code[at+2].A, n, h.code[at+1].A)
		h.lay(at, nop(), nop(), push(known))
	case h.follow(at, api.OpPush, api.OpZero):
		h.lay(at, nop(), decided(n, h.code[at+1].A))
	case h.follow(at, api.OpPush, api.OpNot):
		h.lay(at, nop(), push(reckon.Truth(n == 0)))
	case h.follow(at, api.OpPush, api.OpTruth):
		h.lay(at, nop(), push(reckon.Truth(n != 0)))
	case h.follow(at, api.OpPush, api.OpDrop):
		h.lay(at, nop(), nop())
	}
}

// follow tells whether these operations stand one behind the other from a place on, and the machine comes to none but the first of them from elsewhere.
func (h hole) follow(at int, ops ...int) bool {
	if len(ops) > len(h.code)-at {
		return false
	}
	for i, op := range ops {
		if h.code[at+i].Op != op || i > 0 && h.marks[at+i] {
			return false
		}
	}
	return true
}

// shorten lets a jump to a jump go where that one goes. It asks the code as it was, so that what was shortened already is not gone along twice.
func (h hole) shorten(at int) {
	to := h.code[at].A
	if to >= 0 && to < len(h.was) && to != at && h.was[to].Op == api.OpJump {
		h.code[at].A = h.was[to].A
	}
}

func (h hole) lay(at int, l ...api.Instr) {
	copy(h.code[at:], l)
}

// neverEnds tells whether an operation of two numbers can't end a run: one that can is left to the machine.
func neverEnds(op int) bool {
	return reckon.IsOp(op) && op != api.Div && op != api.Rem
}

// decided tells what becomes of an OpZero whose number is known.
func decided(n, to int) api.Instr {
	if n == 0 {
		return api.Instr{Op: api.OpJump, A: to}
	}
	return nop()
}

func nop() api.Instr { return api.Instr{Op: api.OpNop} }

func push(n int) api.Instr { return api.Instr{Op: api.OpPush, A: n} }
