package link_test

import (
	"fmt"
	"math/rand"
	"slices"
	"testing"

	"bellwright/api"
	"bellwright/link"
	"bellwright/mach"
	"bellwright/obj"
)

// three tells objects with all kinds of fixes, of all modules.
func three() []api.Object {
	return []api.Object{
		{Name: "a", Data: 7, Code: []api.Instr{ins(api.OpJump, 2, 5), ins(api.OpLoad, 3, 6), ins(api.OpCall, 1, 7), ins(api.OpPush, 4, 8)},
			Fixes: []api.Fix{{At: 0, Kind: api.FixCode}, {At: 1, Kind: api.FixData}, {At: 2, Kind: api.FixProc}}, Entries: []int{1, 3}, Main: 2},
		{Name: "b", Data: 10, Uses: []string{"a"}, Code: []api.Instr{ins(api.OpSave, 2, 0), ins(api.OpSave, 2, 0), ins(api.OpCall, 0, 0), ins(api.OpCall, 0, 0), ins(api.OpZero, 5, 0)},
			Fixes: []api.Fix{{At: 0, Kind: api.FixData}, {At: 1, Kind: api.FixData, M: 1}, {At: 2, Kind: api.FixProc}, {At: 3, Kind: api.FixProc, M: 1}, {At: 4, Kind: api.FixCode}}, Entries: []int{4}},
		{Name: "c", Data: 1, Uses: []string{"b", "a"}, Code: []api.Instr{ins(api.OpIndex, 0, 9), ins(api.OpIndex, 1, 9), ins(api.OpIndex, 2, 9), ins(api.OpCall, 0, 0), ins(api.OpCall, 1, 0), ins(api.OpJump, 0, 0), ins(api.OpHalt, 0, 0)},
			Fixes: []api.Fix{{At: 0, Kind: api.FixData, M: 1}, {At: 1, Kind: api.FixData, M: 2}, {At: 2, Kind: api.FixData}, {At: 3, Kind: api.FixProc, M: 1}, {At: 4, Kind: api.FixProc, M: 2}, {At: 5, Kind: api.FixCode}}, Main: 6},
	}
}

// I2: calls of mains, OpHalt, the code, with each kind of fix.
func TestLink(t *testing.T) {
	m, e := link.Link(three())
	want := api.Image{Data: 18, Code: []api.Instr{
		ins(api.OpCall, 6, 0), ins(api.OpCall, 8, 0), ins(api.OpCall, 19, 0), ins(api.OpHalt, 0, 0),
		ins(api.OpJump, 6, 5), ins(api.OpLoad, 3, 6), ins(api.OpCall, 7, 7), ins(api.OpPush, 4, 8), // from 4 on
		ins(api.OpSave, 9, 0), ins(api.OpSave, 2, 0), ins(api.OpCall, 12, 0), ins(api.OpCall, 5, 0), ins(api.OpZero, 13, 0), // from 8 on
		ins(api.OpIndex, 7, 9), ins(api.OpIndex, 1, 9), ins(api.OpIndex, 19, 9), ins(api.OpCall, 12, 0), ins(api.OpCall, 7, 0), ins(api.OpJump, 13, 0), ins(api.OpHalt, 0, 0), // from 13 on
	}}
	if e != api.OK || !same(m, want) {
		t.Errorf("%+v %d, must be\n%+v", m, e, want)
	}
	// One that is not there shifts what stands behind it; what is not fixed stays, whatever its Op.
	l := three()
	l[0].Fixes = nil
	m, e = link.Link(l[:1])
	if want = (api.Image{Data: 7, Code: append([]api.Instr{ins(api.OpCall, 4, 0), ins(api.OpHalt, 0, 0)}, l[0].Code...)}); e != api.OK || !same(m, want) {
		t.Errorf("%+v %d, must be\n%+v", m, e, want)
	}
	m, e = link.Link(named("b", "a"))
	if want = (api.Image{Code: []api.Instr{ins(api.OpCall, 3, 0), ins(api.OpCall, 4, 0), ins(api.OpHalt, 0, 0), ins(api.OpNop, 0, 0), ins(api.OpNop, 0, 0)}}); e != api.OK || !same(m, want) {
		t.Errorf("%+v %d, must be\n%+v", m, e, want)
	}
}

// I2: the document's example: linked, its main is called at 22.
func TestExample(t *testing.T) {
	_, l := program(t, cnt, top)
	m, e := link.Link(l)
	if e != api.OK || m.Data != 5 || len(m.Code) != 46 || m.Code[0] != ins(api.OpCall, 22, 0) || m.Code[1] != ins(api.OpCall, 25, 0) || m.Code[2] != ins(api.OpHalt, 0, 0) || m.Code[29] != ins(api.OpCall, 3, 0) {
		t.Errorf("%+v %d", m, e)
	}
}

// someObjects tells objects that can be linked.
func someObjects(g *rand.Rand) []api.Object {
	names := []string{"a", "b", "c1", "in"}
	g.Shuffle(4, func(i, k int) { names[i], names[k] = names[k], names[i] })
	var l []api.Object
	for i := range 1 + g.Intn(4) {
		o := object(names[i], 1+g.Intn(12))
		o.Data, o.Main = g.Intn(100), g.Intn(len(o.Code))
		for range g.Intn(4) {
			o.Entries = append(o.Entries, g.Intn(len(o.Code)))
		}
		all := []api.Object{o}
		for _, k := range g.Perm(i)[:g.Intn(i+1)] {
			o.Uses, all = append(o.Uses, names[k]), append(all, l[k])
		}
		for at := range o.Code {
			o.Code[at] = ins(1+g.Intn(22), g.Intn(9)-4, g.Intn(9)-4)
			f := api.Fix{At: at, Kind: g.Intn(4), M: g.Intn(len(all))}
			a := g.Intn(api.MaxCode + 1)
			switch f.Kind {
			case api.FixCode:
				f.M, a = 0, g.Intn(len(o.Code)+1)
			case api.FixProc:
				if len(all[f.M].Entries) == 0 {
					continue
				}
				a = g.Intn(len(all[f.M].Entries))
			case 0:
				continue
			}
			o.Code[at].A = a
			o.Fixes = append(o.Fixes, f)
		}
		l = append(l, o)
	}
	return l
}

// where tells which of the objects module m of one of them is.
func where(l []api.Object, i, m int) int {
	if m == 0 {
		return i
	}
	return slices.IndexFunc(l, func(o api.Object) bool { return o.Name == l[i].Uses[m-1] })
}

// plain tells the image of objects, place by place.
func plain(l []api.Object) api.Image {
	codeAt := func(i int) int {
		n := len(l) + 1
		for _, o := range l[:i] {
			n += len(o.Code)
		}
		return n
	}
	dataAt := func(i int) int {
		n := 0
		for _, o := range l[:i] {
			n += o.Data
		}
		return n
	}
	m := api.Image{Data: dataAt(len(l))}
	for i, o := range l {
		m.Code = append(m.Code, ins(api.OpCall, codeAt(i)+o.Main, 0))
	}
	m.Code = append(m.Code, ins(api.OpHalt, 0, 0))
	for i, o := range l {
		for at, c := range o.Code {
			fix := slices.IndexFunc(o.Fixes, func(f api.Fix) bool { return f.At == at })
			if fix >= 0 {
				k := where(l, i, o.Fixes[fix].M)
				switch o.Fixes[fix].Kind {
				case api.FixCode:
					c.A += codeAt(i)
				case api.FixProc:
					c.A = codeAt(k) + l[k].Entries[c.A]
				case api.FixData:
					c.A += dataAt(k)
				}
			}
			m.Code = append(m.Code, c)
		}
	}
	return m
}

// I2, I3, P3: of any objects the image is what it must be, the same each time, and right.
func TestImages(t *testing.T) {
	g := rand.New(rand.NewSource(1))
	for range 1500 {
		l := someObjects(g)
		m, e := link.Link(l)
		again, _ := link.Link(l)
		if want := plain(l); link.Check(l) != api.OK || e != api.OK || !same(m, want) || !same(again, m) {
			t.Fatalf("Link of %+v:\n%+v %d, must be\n%+v", l, m, e, want)
		}
		if c := mach.Check(m); c != api.OK {
			t.Fatalf("the image is not right: %d of %+v", c, m)
		}
	}
}

// checked tells what Check must, object by object.
func checked(l []api.Object) api.Errno {
	if len(l) == 0 || len(l) > api.MaxMods {
		return api.ErrMany
	}
	for _, o := range l {
		if e := obj.Check(o); e != api.OK {
			return e
		}
	}
	e := api.OK
	for i, o := range l {
		ahead := func(use string) bool {
			return slices.ContainsFunc(l[:i], func(o api.Object) bool { return o.Name == use })
		}
		if ahead(o.Name) {
			return api.ErrThere
		}
		for _, use := range o.Uses {
			if !ahead(use) {
				e = api.ErrRound
			}
		}
	}
	if e != api.OK {
		return e
	}
	for i, o := range l {
		for _, f := range o.Fixes {
			if f.Kind == api.FixProc && o.Code[f.At].A >= len(l[where(l, i, f.M)].Entries) {
				return api.ErrNone
			}
		}
	}
	return api.OK
}

// P1, P2: whatever is handed in, nothing panics; an error comes with nothing beside; what was handed in stays as it was.
func TestAnything(t *testing.T) {
	g := rand.New(rand.NewSource(2))
	count := map[api.Errno]int{}
	for range 6000 {
		l := someObjects(g)
		o := &l[g.Intn(len(l))]
		n := []int{-1, 0, 1, 3, 50, 513, 2048, 2049, 1<<63 - 1, -1 << 63}[g.Intn(10)]
		name := []string{"", "a", "b", "c1", "in", "A"}[g.Intn(6)]
		switch g.Intn(10) {
		case 0:
			o.Name = name
		case 1:
			o.Uses = append(o.Uses, name)
		case 2:
			o.Data = n
		case 3:
			o.Code[g.Intn(len(o.Code))].A = n
		case 4:
			o.Code[g.Intn(len(o.Code))].Op = n
		case 5:
			o.Entries = o.Entries[:0]
		case 6:
			o.Main = n
		case 7:
			l = append(l, l[g.Intn(len(l))])
		case 8:
			g.Shuffle(len(l), func(i, k int) { l[i], l[k] = l[k], l[i] })
		case 9:
			if len(o.Fixes) > 0 {
				o.Fixes[g.Intn(len(o.Fixes))] = api.Fix{At: g.Intn(5), Kind: g.Intn(5), M: g.Intn(3)}
			}
		}
		before := fmt.Sprintf("%+v", l)
		c, want := link.Check(l), checked(l)
		m, e := link.Link(l)
		count[e]++
		if c != want || c != api.OK && e != c || e != api.OK && !same(m, api.Image{}) || e == api.OK && (!same(m, plain(l)) || mach.Check(m) != api.OK) {
			t.Fatalf("Check %d, Link %+v %d, must be %d, of %+v", c, m, e, want, l)
		}
		if fmt.Sprintf("%+v", l) != before {
			t.Fatalf("what was handed in is changed: %+v", l)
		}
	}
	for _, e := range []api.Errno{api.OK, api.ErrForm, api.ErrMany, api.ErrThere, api.ErrRound, api.ErrNone} {
		if count[e] < 20 {
			t.Errorf("only %d have %d: %v", count[e], e, count)
		}
	}
}

// spare lays each list of the objects anew, with room with something in it behind it.
func spare(l []api.Object) []api.Object {
	l = append(slices.Clone(l), api.Object{Name: "spare"})[:len(l)]
	for i, o := range l {
		l[i].Uses = append(slices.Clone(o.Uses), "spare")[:len(o.Uses)]
		l[i].Code = append(slices.Clone(o.Code), ins(77, 77, 77), ins(77, 77, 77))[:len(o.Code)]
		l[i].Fixes = append(slices.Clone(o.Fixes), api.Fix{At: 77})[:len(o.Fixes)]
		l[i].Entries = append(slices.Clone(o.Entries), 77)[:len(o.Entries)]
	}
	return l
}

// told tells objects with one element of the room behind their lists.
func told(l []api.Object) string {
	l = slices.Clone(l[:len(l)+1])
	for i, o := range l[:len(l)-1] {
		l[i].Uses, l[i].Code, l[i].Fixes, l[i].Entries = o.Uses[:len(o.Uses)+1], o.Code[:len(o.Code)+2], o.Fixes[:len(o.Fixes)+1], o.Entries[:len(o.Entries)+1]
	}
	return fmt.Sprintf("%+v", l)
}

// P2: what is handed in stays as it is, with the spare room behind its lists; an answer is the caller's.
func TestMemory(t *testing.T) {
	l := spare(three())
	before := told(l)
	link.Check(l)
	first, _ := link.Link(l)
	second, _ := link.Link(l)
	if told(l) != before {
		t.Errorf("it was\n%s\nand is\n%s", before, told(l))
	}
	for i := range first.Code[:cap(first.Code)] {
		first.Code[:cap(first.Code)][i] = ins(99, 99, 99)
	}
	if told(l) != before || !same(second, plain(three())) {
		t.Error("a change of an answer is seen")
	}
	for i := range l {
		l[i].Code[0], l[i].Data = ins(98, 98, 98), 98
	}
	if !same(second, plain(three())) {
		t.Error("a later change of what was handed in is seen")
	}
}
