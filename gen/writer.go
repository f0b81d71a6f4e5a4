package gen

import "bellwright/api"

// writer has the code that is there yet.
type writer struct {
	code  []api.Instr
	fixes []api.Fix
}

// here tells the place of what is written next.
func (w *writer) here() int { return len(w.code) }

func (w *writer) isFull() bool { return len(w.code) > api.MaxCode }

func (w *writer) put(op, a, b int) {
	w.code = append(w.code, api.Instr{Op: op, A: a, B: b})
}

// putFixed writes an instruction whose A is fixed later on.
func (w *writer) putFixed(kind, m int, i api.Instr) {
	w.fixes = append(w.fixes, api.Fix{At: w.here(), Kind: kind, M: m})
	w.code = append(w.code, i)
}

// jump writes one to what is not there yet. What it answers lands it: where that is called, it goes to.
func (w *writer) jump(op int) (land func()) {
	at := w.here()
	w.jumpTo(op, 0)
	return func() { w.code[at].A = w.here() }
}

func (w *writer) jumpTo(op, to int) {
	w.putFixed(api.FixCode, 0, api.Instr{Op: op, A: to})
}

func (w *writer) body(p api.Part) {
	w.put(api.OpEnter, p.Params, p.Locals)
	w.block(p.Body)
	w.put(api.OpPush, 0, 0)
	w.put(api.OpRet, 0, 0)
}

// block leaves off where there is too much code already: blocks in one another could have far more.
func (w *writer) block(l []api.Act) {
	for _, a := range l {
		if w.isFull() {
			return
		}
		w.act(a)
	}
}

func (w *writer) act(a api.Act) {
	switch a.Op {
	case api.Set:
		w.set(a)
	case api.Put:
		w.index(a.N, a.M, a.At, a.Args[0])
		w.node(a.Args[1])
		w.put(api.OpStore, 0, 0)
	case api.Do:
		w.call(a.M, a.At, a.Args)
		w.put(api.OpDrop, 0, 0)
	case api.If:
		w.branch(a)
	case api.While:
		w.while(a)
	case api.Return:
		w.node(a.Args[0])
		w.put(api.OpRet, 0, 0)
	case api.Out:
		w.node(a.Args[0])
		w.put(api.OpOut, 0, 0)
	}
}

func (w *writer) set(a api.Act) {
	w.node(a.Args[0])
	if a.M == -1 {
		w.put(api.OpSet, a.At, 0)
		return
	}
	w.putFixed(api.FixData, a.M, api.Instr{Op: api.OpSave, A: a.At})
}

func (w *writer) branch(a api.Act) {
	w.node(a.Args[0])
	landOther := w.jump(api.OpZero)
	w.block(a.Body)
	if len(a.Other) == 0 {
		landOther()
		return
	}
	landEnd := w.jump(api.OpJump)
	landOther()
	w.block(a.Other)
	landEnd()
}

func (w *writer) while(a api.Act) {
	begin := w.here()
	w.node(a.Args[0])
	landEnd := w.jump(api.OpZero)
	w.put(api.OpTick, 0, 0)
	w.block(a.Body)
	w.jumpTo(api.OpJump, begin)
	landEnd()
}

func (w *writer) index(size, m, at int, index api.Node) {
	w.node(index)
	w.putFixed(api.FixData, m, api.Instr{Op: api.OpIndex, A: at, B: size})
}

func (w *writer) call(m, at int, args []api.Node) {
	w.nodes(args)
	w.putFixed(api.FixProc, m, api.Instr{Op: api.OpCall, A: at})
}

func (w *writer) nodes(l []api.Node) {
	for _, n := range l {
		w.node(n)
	}
}

func (w *writer) node(n api.Node) {
	switch n.Op {
	case api.Num:
		w.put(api.OpPush, n.N, 0)
	case api.In:
		w.put(api.OpIn, 0, 0)
	case api.Local:
		w.put(api.OpGet, n.At, 0)
	case api.Var:
		w.putFixed(api.FixData, n.M, api.Instr{Op: api.OpLoad, A: n.At})
	case api.Elem:
		w.index(n.N, n.M, n.At, n.Args[0])
		w.put(api.OpFetch, 0, 0)
	case api.Call:
		w.call(n.M, n.At, n.Args)
	case api.Not:
		w.node(n.Args[0])
		w.put(api.OpNot, 0, 0)
	case api.And:
		w.and(n.Args[0], n.Args[1])
	case api.Or:
		w.or(n.Args[0], n.Args[1])
	default:
		w.nodes(n.Args)
		w.put(api.OpMath, n.Op, 0)
	}
}

func (w *writer) and(first, second api.Node) {
	w.node(first)
	landFalse := w.jump(api.OpZero)
	w.node(second)
	w.put(api.OpTruth, 0, 0)
	landEnd := w.jump(api.OpJump)
	landFalse()
	w.put(api.OpPush, 0, 0)
	landEnd()
}

func (w *writer) or(first, second api.Node) {
	w.node(first)
	landSecond := w.jump(api.OpZero)
	w.put(api.OpPush, 1, 0)
	landEnd := w.jump(api.OpJump)
	landSecond()
	w.node(second)
	w.put(api.OpTruth, 0, 0)
	landEnd()
}
