package obj_test

import (
	"encoding/binary"
	"fmt"
	"slices"
	"testing"

	"bellwright/api"
	"bellwright/obj"
)

// same holds objects against each other, whose lists may be nil or not, if they are empty.
func same(a, b api.Object) bool { return fmt.Sprintf("%+v", a) == fmt.Sprintf("%+v", b) }

func repeat[T any](x T, n int) []T { return slices.Repeat([]T{x}, n) }

// raw tells what the bytes of an object are, right or not.
func raw(o api.Object) string {
	var b []byte
	text := func(s string) {
		b = append(b, byte(len(s)))
		b = append(b, s...)
	}
	number := func(l ...int) {
		for _, n := range l {
			b = binary.BigEndian.AppendUint64(b, uint64(n))
		}
	}
	text(o.Name)
	number(len(o.Uses))
	for _, u := range o.Uses {
		text(u)
	}
	number(o.Data, len(o.Code))
	for _, c := range o.Code {
		b = append(b, byte(c.Op))
		number(c.A, c.B)
	}
	number(len(o.Fixes))
	for _, f := range o.Fixes {
		number(f.At)
		b = append(b, byte(f.Kind))
		number(f.M)
	}
	number(len(o.Entries))
	number(o.Entries...)
	number(o.Main)
	return string(b)
}

// some tells a right object with something in each list.
func some() api.Object {
	return api.Object{Name: "some", Uses: []string{"a", "b2"}, Data: 5,
		Code:    []api.Instr{{Op: api.OpEnter, A: 1, B: 2}, {Op: api.OpLoad, A: 3}, {Op: api.OpCall, A: 5}, {Op: api.OpZero, A: 6}, {Op: api.OpPush, A: -1, B: -2}, {Op: api.OpRet}},
		Fixes:   []api.Fix{{At: 1, Kind: api.FixData, M: 2}, {At: 2, Kind: api.FixProc, M: 1}, {At: 3, Kind: api.FixCode}},
		Entries: []int{0, 5}, Main: 4}
}

// cnt is the object of the document's example.
var cnt = api.Object{Name: "cnt", Data: 5, Entries: []int{0}, Main: 19,
	Code:  instrs([][3]int{{14, 1, 1}, {2, 0, 0}, {3, 1, 0}, {2, 1, 0}, {12, 15, 0}, {16, 0, 0}, {4, 0, 0}, {2, 1, 0}, {10, 9, 0}, {5, 0, 0}, {2, 1, 0}, {1, 1, 0}, {10, 10, 0}, {3, 1, 0}, {11, 3, 0}, {4, 0, 0}, {15, 0, 0}, {1, 0, 0}, {15, 0, 0}, {14, 0, 0}, {1, 0, 0}, {15, 0, 0}}),
	Fixes: []api.Fix{{At: 4, Kind: 1}, {At: 6, Kind: 3}, {At: 9, Kind: 3}, {At: 14, Kind: 1}, {At: 15, Kind: 3}}}

func instrs(l [][3]int) []api.Instr {
	var code []api.Instr
	for _, x := range l {
		code = append(code, api.Instr{Op: x[0], A: x[1], B: x[2]})
	}
	return code
}

// wantCheck holds what all calls tell of an object that has few enough bytes against what they must.
func wantCheck(t *testing.T, what string, o api.Object, want api.Errno) {
	t.Helper()
	if e := obj.Check(o); e != want {
		t.Errorf("Check of %s: %d, must be %d", what, e, want)
	}
	s, e := obj.Write(o)
	if e != want || e == api.OK && s != raw(o) || e != api.OK && s != "" {
		t.Errorf("Write of %s: %q %d, must be %d", what, s, e, want)
	}
	if len(raw(o)) > api.MaxBytes {
		return
	}
	back, e := obj.Read(raw(o))
	if want == api.OK && (e != api.OK || !same(back, o)) || want != api.OK && (e != api.ErrForm || !same(back, api.Object{})) {
		t.Errorf("Read of %s: %+v %d", what, back, e)
	}
}

func wantRead(t *testing.T, what, s string, want api.Errno) {
	t.Helper()
	o, e := obj.Read(s)
	if e != want || e != api.OK && !same(o, api.Object{}) {
		t.Errorf("Read of %s: %+v %d, must be %d", what, o, e, want)
	}
}
