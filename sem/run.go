package sem

import (
	"bellwright/api"
	"bellwright/reckon"
)

// world is what all calls of a run share.
type world struct {
	units        []api.Unit
	near         [][]int // of each unit, by M, which unit is meant
	begin        []int   // where each unit's data begins
	data         []int
	in           []int // what is not asked for yet
	out          []int
	limit, ticks int
	calls        int // in one another
	end          int
}

// call is one that goes on, of a part or a main.
type call struct {
	*world
	unit     int
	locals   []int // parameters first
	returned int
}

// newWorld is asked of units that are a program.
func newWorld(l []api.Unit, in []int, ticks int) *world {
	w := &world{units: l, in: in, limit: ticks}
	at := map[string]int{}
	size := 0
	for i, u := range l {
		at[u.Name] = i
		near := []int{i}
		for _, use := range u.Uses {
			near = append(near, at[use])
		}
		w.near = append(w.near, near)
		w.begin = append(w.begin, size)
		size += u.Data
	}
	w.data = make([]int, size)
	return w
}

// mains calls all mains. What ends the run in their midst is thrown by stop, and caught here.
func (w *world) mains() {
	defer func() {
		recover()
	}()
	for i, u := range w.units {
		w.enter(i, u.Main, nil)
	}
}

func (w *world) stop(end int) {
	w.end = end
	panic(end)
}

func (w *world) tick() {
	if w.ticks == w.limit {
		w.stop(api.NoTicks)
	}
	w.ticks++
}

func (w *world) enter(unit int, body []api.Act, locals []int) int {
	w.tick()
	if w.calls == api.MaxCalls {
		w.stop(api.TooDeep)
	}
	w.calls++
	c := &call{world: w, unit: unit, locals: locals}
	c.block(body)
	w.calls--
	return c.returned
}

func (w *world) next() int {
	if len(w.in) == 0 {
		return 0
	}
	n := w.in[0]
	w.in = w.in[1:]
	return n
}

func (w *world) tell(n int) {
	if len(w.out) == api.MaxOut {
		w.stop(api.FullOut)
	}
	w.out = append(w.out, n)
}

// block tells whether a Return ended it.
func (c *call) block(l []api.Act) bool {
	for _, a := range l {
		if c.act(a) {
			return true
		}
	}
	return false
}

// act tells whether a Return ended it.
func (c *call) act(a api.Act) bool {
	switch a.Op {
	case api.Set:
		c.set(a)
	case api.Put:
		at := c.element(a.N, a.M, a.At, a.Args[0])
		c.data[at] = c.value(a.Args[1])
	case api.Do:
		c.part(a.M, a.At, a.Args)
	case api.If:
		if c.holds(a.Args[0]) {
			return c.block(a.Body)
		}
		return c.block(a.Other)
	case api.While:
		return c.while(a)
	case api.Return:
		c.returned = c.value(a.Args[0])
		return true
	case api.Out:
		c.tell(c.value(a.Args[0]))
	}
	return false
}

func (c *call) set(a api.Act) {
	n := c.value(a.Args[0])
	if a.M == -1 {
		c.locals[a.At] = n
		return
	}
	c.data[c.place(a.M, a.At)] = n
}

func (c *call) while(a api.Act) bool {
	for c.holds(a.Args[0]) {
		c.tick()
		if c.block(a.Body) {
			return true
		}
	}
	return false
}

// place tells where a unit's number lies in the data of all.
func (c *call) place(m, at int) int {
	return c.begin[c.near[c.unit][m]] + at
}

// element tells where an array's element lies.
func (c *call) element(size, m, at int, index api.Node) int {
	i := c.value(index)
	if i < 0 || i >= size {
		c.stop(api.Outside)
	}
	return c.place(m, at) + i
}

// part calls a part: its arguments are worked out here, ahead of the tick.
func (c *call) part(m, at int, args []api.Node) int {
	unit := c.near[c.unit][m]
	p := c.units[unit].Parts[at]
	locals := make([]int, p.Params+p.Locals)
	for i, x := range args {
		locals[i] = c.value(x)
	}
	return c.enter(unit, p.Body, locals)
}

func (c *call) holds(x api.Node) bool {
	return c.value(x) != 0
}

func (c *call) value(x api.Node) int {
	switch x.Op {
	case api.Num:
		return x.N
	case api.In:
		return c.next()
	case api.Local:
		return c.locals[x.At]
	case api.Var:
		return c.data[c.place(x.M, x.At)]
	case api.Elem:
		return c.data[c.element(x.N, x.M, x.At, x.Args[0])]
	case api.Call:
		return c.part(x.M, x.At, x.Args)
	case api.Not:
		return reckon.Truth(!c.holds(x.Args[0]))
	case api.And:
		return reckon.Truth(c.holds(x.Args[0]) && c.holds(x.Args[1]))
	case api.Or:
		return reckon.Truth(c.holds(x.Args[0]) || c.holds(x.Args[1]))
	}
	first := c.value(x.Args[0])
	n, ok := reckon.Of(x.Op, first, c.value(x.Args[1]))
	if !ok {
		c.stop(api.ByZero)
	}
	return n
}
