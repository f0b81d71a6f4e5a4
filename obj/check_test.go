package obj_test

import (
	"fmt"
	"testing"

	"bellwright/api"
	"bellwright/obj"
)

// f, ok and many are short for what most of these ask for.
const f, ok, many = api.ErrForm, api.OK, api.ErrMany

const far = 1<<63 - 1

// with tells some with a change.
func with(turn func(o *api.Object)) api.Object {
	o := some()
	turn(&o)
	return o
}

// H1: names of the object and of its uses, none of which is its own, or there twice; words that a module's text needs are names too.
func TestNames(t *testing.T) {
	for name, want := range map[string]api.Errno{
		"a": ok, "abcdefgh": ok, "z9": ok, "in": ok, "module": ok, "local": ok,
		"": f, "abcdefghi": f, "9": f, "A": f, "a b": f, "ä": f, "a\x00": f, "{": f,
	} {
		wantCheck(t, "the name "+name, with(func(o *api.Object) { o.Name, o.Uses = name, []string{"x", "y"} }), want)
		wantCheck(t, "the use "+name, with(func(o *api.Object) { o.Uses = []string{name, "y"} }), want)
		wantCheck(t, "the last use "+name, with(func(o *api.Object) { o.Uses = []string{"x", "y", name} }), want)
	}
	type s = []string
	for _, c := range []struct {
		uses []string
		want api.Errno
	}{
		{s{"a", "b", "c"}, ok}, {s{"c", "b", "a"}, ok}, {s{"a", "b", "c", "d"}, many}, {repeat("a", 1000), many},
		{s{"a", "a"}, f}, {s{"a", "b", "a"}, f}, {s{"b", "a", "a"}, f}, {s{"some", "a"}, f}, {s{"a", "some"}, f}, {s{"a", "b", "some"}, f},
	} {
		wantCheck(t, fmt.Sprint(len(c.uses), " uses"), with(func(o *api.Object) { o.Uses = c.uses }), c.want)
	}
	wantCheck(t, "no uses", with(func(o *api.Object) { o.Uses, o.Fixes = nil, nil }), ok)
}

// H1: how much data and code, how many entries, and where they are.
func TestPlaces(t *testing.T) {
	for n, want := range map[int]api.Errno{0: ok, api.MaxData: ok, api.MaxData + 1: f, -1: f, far: f, -far - 1: f} {
		wantCheck(t, fmt.Sprint("data ", n), with(func(o *api.Object) { o.Data = n }), want)
	}
	nop := api.Instr{Op: api.OpNop}
	for n, want := range map[int]api.Errno{0: many, 1: ok, 2: ok, 1900: ok, api.MaxCode + 1: many, 1 << 16: many} {
		wantCheck(t, fmt.Sprint(n, " instructions"), api.Object{Name: "a", Code: repeat(nop, n)}, want)
	}
	// MaxCode instructions are right, but have too many bytes.
	if e := obj.Check(api.Object{Name: "a", Code: repeat(nop, api.MaxCode), Entries: []int{api.MaxCode - 1}, Main: api.MaxCode - 1}); e != ok {
		t.Errorf("Check of MaxCode instructions: %d", e)
	}
	for n, want := range map[int]api.Errno{0: ok, api.MaxProcs: ok, api.MaxProcs + 1: many, 1000: many} {
		wantCheck(t, fmt.Sprint(n, " entries"), with(func(o *api.Object) { o.Entries = make([]int, n) }), want)
	}
	for at, want := range map[int]api.Errno{0: ok, 5: ok, 6: f, -1: f, far: f, -far - 1: f} {
		wantCheck(t, fmt.Sprint("main at ", at), with(func(o *api.Object) { o.Main = at }), want)
		wantCheck(t, fmt.Sprint("an entry at ", at), with(func(o *api.Object) { o.Entries = []int{at, 1} }), want)
		wantCheck(t, fmt.Sprint("a last entry at ", at), with(func(o *api.Object) { o.Entries = []int{1, 1, 3, 2, 0, at} }), want)
	}
}

// H1: each Op is one; A and B may be anything where they are not fixed.
func TestOps(t *testing.T) {
	for op := -2; op < 30; op++ {
		want := ok
		if op < 1 || op > 22 {
			want = f
		}
		for _, at := range []int{0, 5} {
			o := with(func(o *api.Object) { o.Code[at] = api.Instr{Op: op, A: -far - 1, B: far} })
			if e := obj.Check(o); e != want {
				t.Errorf("Check of Op %d: %d", op, e)
			}
			if _, e := obj.Write(o); e != want {
				t.Errorf("Write of Op %d: %d", op, e)
			}
			if back, e := obj.Read(raw(o)); e != want || e == ok && !same(back, o) {
				t.Errorf("Read of Op %d: %+v %d", op, back, e)
			}
		}
	}
	// What has not one byte must not be cut down to one that is right.
	for _, op := range []int{256 + api.OpNop, 1<<32 + api.OpNop, api.OpNop - 256} {
		if s, e := obj.Write(with(func(o *api.Object) { o.Code[0].Op = op })); e != f || s != "" {
			t.Errorf("Write of Op %d: %q %d", op, s, e)
		}
	}
}

// H1: fixes rise by At, which are places of code.
func TestFixPlaces(t *testing.T) {
	at := func(l ...int) (o api.Object) {
		o = some()
		o.Fixes = nil
		for i := range o.Code {
			o.Code[i].A = 0
		}
		for _, n := range l {
			o.Fixes = append(o.Fixes, api.Fix{At: n, Kind: api.FixData})
		}
		return o
	}
	for _, c := range []struct {
		l    []int
		want api.Errno
	}{
		{[]int{}, ok}, {[]int{0}, ok}, {[]int{5}, ok}, {[]int{0, 1, 2, 3, 4, 5}, ok}, {[]int{1, 3, 5}, ok},
		{[]int{6}, f}, {[]int{-1}, f}, {[]int{far}, f}, {[]int{-far - 1}, f}, {[]int{0, 6}, f}, {[]int{-1, 0}, f},
		{[]int{0, 0}, f}, {[]int{1, 0}, f}, {[]int{0, 2, 1}, f}, {[]int{0, 2, 2}, f}, {[]int{1, 2, 0, 3}, f}, {[]int{0, 1, 2, 3, 4, 5, 5}, f}, {[]int{0, 1, 2, 3, 4, 5, 6}, f},
	} {
		wantCheck(t, fmt.Sprint("fixes at ", c.l), at(c.l...), c.want)
	}
}

// H1: which kinds of fixes there are, and what A and M of each may be.
func TestFixKinds(t *testing.T) {
	for _, c := range []struct {
		kind, a, m int
		want       api.Errno
	}{
		{api.FixCode, 0, 0, ok}, {api.FixCode, 5, 0, ok}, {api.FixCode, 6, 0, ok}, {api.FixCode, 7, 0, f}, {api.FixCode, -1, 0, f}, {api.FixCode, far, 0, f}, {api.FixCode, api.MaxCode, 0, f},
		{api.FixCode, 0, 1, f}, {api.FixCode, 0, 2, f}, {api.FixCode, 0, -1, f}, {api.FixCode, 0, far, f},
		{0, 0, 0, f}, {4, 0, 0, f}, {-1, 0, 0, f}, {255, 0, 0, f},
	} {
		wantCheck(t, fmt.Sprintf("%+v", c), fixed(c.kind, c.a, c.m), c.want)
	}
	for _, kind := range []int{api.FixProc, api.FixData} {
		for _, c := range []struct {
			a, m int
			want api.Errno
		}{
			{0, 0, ok}, {7, 0, ok}, {api.MaxCode, 0, ok}, {api.MaxCode, 2, ok}, {0, 1, ok}, {0, 2, ok},
			{api.MaxCode + 1, 0, f}, {-1, 0, f}, {far, 0, f}, {-far - 1, 0, f}, {0, 3, f}, {0, -1, f}, {0, far, f}, {0, -far - 1, f},
		} {
			wantCheck(t, fmt.Sprintf("%d: %+v", kind, c), fixed(kind, c.a, c.m), c.want)
		}
	}
	for _, kind := range []int{256 + api.FixData, 1<<32 + api.FixCode, api.FixProc - 256} {
		if s, e := obj.Write(fixed(kind, 0, 0)); e != f || s != "" {
			t.Errorf("Write of kind %d: %q %d", kind, s, e)
		}
	}
	// What is fixed may be of any Op; M is asked by the uses that there are.
	for op := api.OpPush; op <= api.OpTruth; op++ {
		wantCheck(t, fmt.Sprint("a fix of Op ", op), with(func(o *api.Object) { o.Code[3].Op = op }), ok)
	}
	for uses := range api.MaxUses + 1 {
		o := fixed(api.FixData, 1, uses)
		o.Uses = []string{"a", "b", "c"}[:uses]
		wantCheck(t, "the last use", o, ok)
		o.Fixes[1].M++
		wantCheck(t, "one use more", o, f)
	}
}

// fixed tells an object of six instructions and two uses, with a fix in the midst.
func fixed(kind, a, m int) api.Object {
	return with(func(o *api.Object) {
		o.Fixes = []api.Fix{{At: 0, Kind: api.FixProc}, {At: 4, Kind: kind, M: m}}
		o.Code[4].A = a
	})
}

// H1: ErrMany is ahead of ErrForm.
func TestOrder(t *testing.T) {
	wrong := func(turn func(o *api.Object)) api.Object {
		return with(func(o *api.Object) {
			o.Name, o.Data, o.Main, o.Fixes = "", -1, -1, []api.Fix{{At: -1}}
			turn(o)
		})
	}
	wantCheck(t, "all wrong", wrong(func(o *api.Object) {}), f)
	wantCheck(t, "all wrong, with many uses", wrong(func(o *api.Object) { o.Uses = repeat("", 4) }), many)
	wantCheck(t, "all wrong, with many entries", wrong(func(o *api.Object) { o.Entries = repeat(-1, 7) }), many)
	wantCheck(t, "all wrong, with much code", wrong(func(o *api.Object) { o.Code = make([]api.Instr, api.MaxCode+1) }), many)
	wantCheck(t, "all wrong, without code", wrong(func(o *api.Object) { o.Code = nil }), many)
	wantCheck(t, "nothing", api.Object{}, many)
	wantCheck(t, "many fixes", wrong(func(o *api.Object) { o.Fixes = make([]api.Fix, 1000) }), f)
	// ErrForm is ahead of how many bytes there would be.
	o := sized(5)
	if _, e := obj.Write(o); e != many {
		t.Errorf("Write of too many bytes: %d", e)
	}
	o.Main = -1
	wantCheck(t, "too many bytes of a wrong object", o, f)
}
