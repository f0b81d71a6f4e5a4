package mach

import (
	"bellwright/api"
	"bellwright/reckon"
)

// machine is what a run works on.
type machine struct {
	code             []api.Instr
	at               int // where to go on
	stack            []int
	locals           []int // of all frames, one behind the other
	frames           []frame
	data             []int
	in               []int // what is not asked for yet
	out              []int
	mostTicks, ticks int
	mostSteps, steps int
	end              int
}

// frame has the locals from begin on, up to where those of the next frame begin.
type frame struct {
	begin int
	back  int // where to go on behind the call
}

// newMachine is asked of an image that is right.
func newMachine(m api.Image, in []int, ticks, steps int) *machine {
	return &machine{code: m.Code, frames: []frame{{}}, data: make([]int, m.Data), in: in, mostTicks: ticks, mostSteps: steps}
}

// run goes on until something ends it: that is thrown by stop, and caught here.
func (m *machine) run() {
	defer func() {
		recover()
	}()
	for {
		m.step()
	}
}

func (m *machine) stop(end int) {
	m.end = end
	panic(end)
}

// must ends the run by Broken, unless it is so.
func (m *machine) must(is bool) {
	if !is {
		m.stop(api.Broken)
	}
}

func (m *machine) step() {
	if m.steps == m.mostSteps {
		m.stop(api.NoSteps)
	}
	m.steps++
	m.must(m.at >= 0 && m.at < len(m.code))
	i := m.code[m.at]
	m.at++
	m.do(i)
}

// do takes all that an instruction takes ahead of asking for Outside, ByZero and FullOut, as Broken comes first.
func (m *machine) do(i api.Instr) {
	switch i.Op {
	case api.OpPush:
		m.push(i.A)
	case api.OpGet:
		m.push(m.get(m.own(), i.A))
	case api.OpSet:
		m.put(m.own(), i.A, m.pop())
	case api.OpLoad:
		m.push(m.get(m.data, i.A))
	case api.OpSave:
		m.put(m.data, i.A, m.pop())
	case api.OpIndex:
		m.index(i.A, i.B)
	case api.OpFetch:
		m.push(m.get(m.data, m.pop()))
	case api.OpStore:
		n := m.pop()
		m.put(m.data, m.pop(), n)
	case api.OpNot:
		m.push(reckon.Truth(m.pop() == 0))
	case api.OpTruth:
		m.push(reckon.Truth(m.pop() != 0))
	case api.OpMath:
		m.math(i.A)
	case api.OpJump:
		m.at = i.A
	case api.OpZero:
		if m.pop() == 0 {
			m.at = i.A
		}
	case api.OpCall:
		m.call(i.A)
	case api.OpEnter:
		m.enter(i.A, i.B)
	case api.OpRet:
		m.ret()
	case api.OpTick:
		m.tick()
	case api.OpDrop:
		m.pop()
	case api.OpIn:
		m.push(m.next())
	case api.OpOut:
		m.tell(m.pop())
	case api.OpHalt:
		m.stop(api.Ended)
	}
}

func (m *machine) push(n int) {
	m.must(len(m.stack) < api.MaxStack)
	m.stack = append(m.stack, n)
}

func (m *machine) pop() int {
	last := len(m.stack) - 1
	m.must(last >= 0)
	n := m.stack[last]
	m.stack = m.stack[:last]
	return n
}

// own tells the locals of the frame that goes on.
func (m *machine) own() []int {
	return m.locals[m.top().begin:]
}

func (m *machine) top() frame {
	return m.frames[len(m.frames)-1]
}

func (m *machine) get(l []int, at int) int {
	m.must(at >= 0 && at < len(l))
	return l[at]
}

func (m *machine) put(l []int, at, n int) {
	m.must(at >= 0 && at < len(l))
	l[at] = n
}

func (m *machine) index(begin, size int) {
	i := m.pop()
	if i < 0 || i >= size {
		m.stop(api.Outside)
	}
	m.push(begin + i)
}

func (m *machine) math(op int) {
	m.must(reckon.IsOp(op))
	second := m.pop()
	n, ok := reckon.Of(op, m.pop(), second)
	if !ok {
		m.stop(api.ByZero)
	}
	m.push(n)
}

func (m *machine) tick() {
	if m.ticks == m.mostTicks {
		m.stop(api.NoTicks)
	}
	m.ticks++
}

func (m *machine) call(to int) {
	m.tick()
	if len(m.frames) > api.MaxCalls {
		m.stop(api.TooDeep)
	}
	m.frames = append(m.frames, frame{begin: len(m.locals), back: m.at})
	m.at = to
}

// enter asks by a difference, as the sum might go round.
func (m *machine) enter(handed, more int) {
	m.must(handed >= 0 && more >= 0 && more <= api.MaxStack-handed)
	rest := len(m.stack) - handed
	m.must(rest >= 0)
	m.locals = append(m.locals[:m.top().begin], m.stack[rest:]...)
	m.locals = append(m.locals, make([]int, more)...)
	m.stack = m.stack[:rest]
}

func (m *machine) ret() {
	m.must(len(m.frames) > 1)
	f := m.top()
	m.frames = m.frames[:len(m.frames)-1]
	m.locals = m.locals[:f.begin]
	m.at = f.back
}

func (m *machine) next() int {
	if len(m.in) == 0 {
		return 0
	}
	n := m.in[0]
	m.in = m.in[1:]
	return n
}

func (m *machine) tell(n int) {
	if len(m.out) == api.MaxOut {
		m.stop(api.FullOut)
	}
	m.out = append(m.out, n)
}
