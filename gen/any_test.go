package gen_test

import (
	"math/rand"
	"reflect"
	"slices"
	"testing"

	"bellwright/api"
	"bellwright/gen"
	"bellwright/obj"
	"bellwright/sem"
)

// maker makes right units by chance, the same each time.
type maker struct {
	*rand.Rand
	unit   api.Unit // but for its statements
	locals int
}

// newUnit tells a unit, with no more code than may be.
func newUnit(g *rand.Rand) api.Unit {
	for {
		m := &maker{Rand: g, unit: api.Unit{Name: []string{"a", "b1"}[g.Intn(2)], Uses: []string{"x", "y", "z"}[:g.Intn(4)], Data: 1 + g.Intn(api.MaxData)}}
		for range g.Intn(api.MaxProcs + 1) {
			m.unit.Parts = append(m.unit.Parts, api.Part{Params: g.Intn(api.MaxParams + 1), Locals: g.Intn(api.MaxLocals + 1)})
		}
		for i, p := range m.unit.Parts {
			m.locals = p.Params + p.Locals
			m.unit.Parts[i].Body = m.block(1)
		}
		m.locals = 0
		m.unit.Main = m.block(1)
		if len(scripted(m.unit).Code) <= api.MaxCode {
			return m.unit
		}
	}
}

// place tells an array of some unit.
func (g *maker) place(n int) (m, at int) {
	if m = g.Intn(len(g.unit.Uses) + 1); m > 0 {
		return m, g.Intn(api.MaxData - n + 1)
	}
	return 0, g.Intn(g.unit.Data - n + 1)
}

func (g *maker) size() int { return 1 + g.Intn(min(api.MaxArray, g.unit.Data)) }

// part tells a part of some unit, and how many numbers it is handed.
func (g *maker) part() (m, at, args int) {
	m = g.Intn(len(g.unit.Uses) + 1)
	if m > 0 {
		return m, g.Intn(api.MaxProcs), g.Intn(api.MaxParams + 1)
	}
	if len(g.unit.Parts) == 0 {
		return 0, -1, 0
	}
	at = g.Intn(len(g.unit.Parts))
	return 0, at, g.unit.Parts[at].Params
}

func (g *maker) nodes(n, deep int) []api.Node {
	var l []api.Node
	for range n {
		l = append(l, g.node(deep))
	}
	return l
}

func (g *maker) node(deep int) api.Node {
	op := 1 + g.Intn(16)
	if deep > 3 && op != api.In && op != api.Var && op != api.Local {
		op = api.Num
	}
	n := api.Node{Op: op}
	switch {
	case op == api.Num:
		n.N = g.Intn(5)
	case op == api.In:
	case op == api.Var:
		n.M, n.At = g.place(1)
	case op == api.Elem:
		n.N = g.size()
		n.M, n.At = g.place(n.N)
		n.Args = g.nodes(1, deep+1)
	case op == api.Call:
		m, at, args := g.part()
		if at < 0 {
			return num(4)
		}
		n.M, n.At, n.Args = m, at, g.nodes(args, deep+1)
	case op == api.Local:
		if g.locals == 0 {
			return num(6)
		}
		n.At = g.Intn(g.locals)
	case op == api.Not:
		n.Args = g.nodes(1, deep+1)
	default:
		n.Args = g.nodes(2, deep+1)
	}
	return n
}

func (g *maker) block(deep int) []api.Act {
	var l []api.Act
	for range g.Intn(5) {
		l = append(l, g.act(deep))
	}
	return l
}

func (g *maker) act(deep int) api.Act {
	a := api.Act{Op: 1 + g.Intn(7)}
	if deep > 3 && a.Op != api.Set {
		a.Op = api.Return
	}
	switch a.Op {
	case api.Set:
		a.M, a.At = g.place(1)
		if g.locals > 0 && g.Intn(2) == 0 {
			a.M, a.At = -1, g.Intn(g.locals)
		}
	case api.Put:
		a.N = g.size()
		a.M, a.At = g.place(a.N)
		a.Args = g.nodes(2, 1)
		return a
	case api.Do:
		m, at, args := g.part()
		if at < 0 {
			return out(num(5))
		}
		a.M, a.At, a.Args = m, at, g.nodes(args, 1)
		return a
	case api.If:
		a.Body, a.Other = g.block(deep+1), g.block(deep+1)
	case api.While:
		a.Body = g.block(deep + 1)
	}
	a.Args = g.nodes(1, 1)
	return a
}

// G1, P3: of any right unit the code is what the chapter's texts make of it, the same each time, and it is a right object.
func TestScripts(t *testing.T) {
	g := rand.New(rand.NewSource(1))
	for range 1000 {
		u := newUnit(g)
		o, e := gen.Gen(u)
		again, _ := gen.Gen(u)
		if want := scripted(u); e != api.OK || !same(o, want) || !same(again, o) {
			t.Fatalf("Gen of %+v:\n%+v %d, must be\n%+v", u, o, e, want)
		}
		if c := obj.Check(o); c != api.OK {
			t.Fatalf("the object is not right: %d of %+v", c, o)
		}
	}
}

// G2: of each part's code all jumps stay in it.
func TestJumpsStay(t *testing.T) {
	g := rand.New(rand.NewSource(2))
	jumps := 0
	for range 1000 {
		o, e := gen.Gen(newUnit(g))
		if e != api.OK {
			t.Fatal(e)
		}
		begins := append(slices.Clone(o.Entries), o.Main, len(o.Code))
		for i, begin := range begins[:len(begins)-1] {
			end := begins[i+1]
			for at := begin; at < end; at++ {
				c := o.Code[at]
				if c.Op != api.OpJump && c.Op != api.OpZero {
					continue
				}
				jumps++
				if c.A < begin || c.A >= end || !slices.Contains(o.Fixes, api.Fix{At: at, Kind: api.FixCode}) {
					t.Fatalf("a jump of the part from %d to %d leaves it: %+v", begin, end, o)
				}
			}
			if o.Code[begin].Op != api.OpEnter || o.Code[end-1].Op != api.OpRet {
				t.Fatalf("a part is not from %d to %d: %+v", begin, end, o)
			}
		}
	}
	if jumps < 1000 {
		t.Errorf("only %d jumps", jumps)
	}
}

// spots gathers what may be spoilt of a value: numbers, texts, lists.
func spots(v reflect.Value, l []reflect.Value) []reflect.Value {
	switch v.Kind() {
	case reflect.Slice:
		l = append(l, v)
		for i := range v.Len() {
			l = spots(v.Index(i), l)
		}
	case reflect.Struct:
		for i := range v.NumField() {
			l = spots(v.Field(i), l)
		}
	default:
		l = append(l, v)
	}
	return l
}

func spoil(g *rand.Rand, u *api.Unit) {
	all := spots(reflect.ValueOf(u).Elem(), nil)
	switch v := all[g.Intn(len(all))]; v.Kind() {
	case reflect.Int:
		v.SetInt([]int64{-1, 0, 1, 2, 3, 5, 7, 16, 40, 600, 1<<63 - 1, -1 << 63}[g.Intn(12)])
	case reflect.String:
		v.SetString([]string{"", "a", "b", "in", "A"}[g.Intn(5)])
	case reflect.Slice:
		if n := v.Len(); n > 0 && g.Intn(2) == 0 {
			v.Set(v.Slice(0, n-1))
		} else if n > 0 {
			v.Set(reflect.AppendSlice(v.Slice3(0, n, n), v))
		}
	}
}

// roomy lays each list of a value anew, with room behind it.
func roomy(v reflect.Value) {
	switch v.Kind() {
	case reflect.Slice:
		n := v.Len()
		grown := reflect.MakeSlice(v.Type(), n+2, n+2)
		reflect.Copy(grown, v)
		for i := range n {
			roomy(grown.Index(i))
		}
		for _, x := range spots(grown.Slice(n, n+2), nil) {
			switch x.Kind() {
			case reflect.Int:
				x.SetInt(4711)
			case reflect.String:
				x.SetString("spare")
			}
		}
		v.Set(grown.Slice(0, n))
	case reflect.Struct:
		for i := range v.NumField() {
			roomy(v.Field(i))
		}
	}
}

// whole tells a value with the room behind its lists.
func whole(v reflect.Value, l []any) []any {
	switch v.Kind() {
	case reflect.Slice:
		l = append(l, v.Len(), v.Cap())
		for i := range v.Cap() {
			l = whole(v.Slice(0, v.Cap()).Index(i), l)
		}
	case reflect.Struct:
		for i := range v.NumField() {
			l = whole(v.Field(i), l)
		}
	default:
		l = append(l, v.Interface())
	}
	return l
}

// G1, P1, P2: whatever is handed in, nothing panics; an error comes with nothing beside; what was handed in stays as it was. Of a unit without uses Gen and Check of chapter 4 ask the same.
func TestAnything(t *testing.T) {
	g := rand.New(rand.NewSource(3))
	count := map[api.Errno]int{}
	for range 1200 {
		u := newUnit(g)
		roomy(reflect.ValueOf(&u).Elem())
		for range g.Intn(3) {
			spoil(g, &u)
		}
		before := whole(reflect.ValueOf(u), nil)
		o, e := gen.Gen(u)
		count[e]++
		if !slices.Equal(whole(reflect.ValueOf(u), nil), before) {
			t.Fatalf("what was handed in is changed: %+v", u)
		}
		if e != api.OK && !same(o, api.Object{}) || e == api.OK && !same(o, scripted(u)) {
			t.Fatalf("Gen of %+v: %+v %d", u, o, e)
		}
		if len(u.Uses) == 0 && (sem.Check([]api.Unit{u}) == api.OK) != (e != api.ErrForm) {
			t.Fatalf("Gen %d, Check %d of %+v", e, sem.Check([]api.Unit{u}), u)
		}
	}
	if count[api.OK] < 300 || count[api.ErrForm] < 300 {
		t.Errorf("%v", count)
	}
}

// P1: lists that lie in themselves end as well.
func TestRound(t *testing.T) {
	x := []api.Node{{Op: api.Not}}
	x[0].Args = x
	u := api.Unit{Name: "a", Main: []api.Act{{Op: api.Out, Args: x}}}
	if _, e := gen.Gen(u); e != api.ErrForm {
		t.Errorf("an expression in itself: %d", e)
	}
	s := []api.Act{{Op: api.While, Args: []api.Node{num(1)}}, {Op: api.If, Args: []api.Node{num(1)}}}
	s[0].Body, s[1].Body, s[1].Other = s, s, s
	if _, e := gen.Gen(api.Unit{Name: "a", Main: s}); e != api.ErrForm {
		t.Errorf("a block in itself: %d", e)
	}
	if _, e := gen.Gen(api.Unit{Name: "a", Parts: []api.Part{{Body: s}}}); e != api.ErrForm {
		t.Errorf("a part's block in itself: %d", e)
	}
}

// P2: an answer is the caller's: a change of it is seen nowhere, nor is a later change of the unit seen in it.
func TestAnswers(t *testing.T) {
	g := rand.New(rand.NewSource(4))
	for range 300 {
		u := newUnit(g)
		roomy(reflect.ValueOf(&u).Elem())
		before := whole(reflect.ValueOf(u), nil)
		want := scripted(u)
		want.Uses = slices.Clone(u.Uses)
		first, _ := gen.Gen(u)
		second, _ := gen.Gen(u)
		for _, l := range []reflect.Value{reflect.ValueOf(&first.Uses), reflect.ValueOf(&first.Code), reflect.ValueOf(&first.Fixes), reflect.ValueOf(&first.Entries)} {
			l = l.Elem()
			for _, x := range spots(l.Slice(0, l.Cap()), nil)[1:] {
				if x.Kind() == reflect.Int {
					x.SetInt(99)
				} else {
					x.SetString("changed")
				}
			}
		}
		if !slices.Equal(whole(reflect.ValueOf(u), nil), before) || !same(second, want) {
			t.Fatal("a change of an answer is seen")
		}
		for i := range u.Uses {
			u.Uses[i] = "changed"
		}
		if !same(second, want) {
			t.Fatal("a later change of the unit is seen")
		}
	}
}
