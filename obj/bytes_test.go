package obj_test

import (
	"fmt"
	"math/rand"
	"slices"
	"strings"
	"testing"

	"bellwright/api"
	"bellwright/obj"
)

// H2: the bytes, one by one.
func TestBytes(t *testing.T) {
	number := func(n byte) string { return "\x00\x00\x00\x00\x00\x00\x00" + string([]byte{n}) }
	below := strings.Repeat("\xff", 7)
	for _, c := range []struct {
		o    api.Object
		want string
	}{
		{api.Object{Name: "a", Code: []api.Instr{{Op: api.OpHalt}}}, "\x01a" + number(0) + number(0) + number(1) + "\x14" + number(0) + number(0) + number(0) + number(0) + number(0)},
		{some(), "\x04some" + number(2) + "\x01a" + "\x02b2" + number(5) + number(6) +
			"\x0e" + number(1) + number(2) + "\x04" + number(3) + number(0) + "\x0d" + number(5) + number(0) + "\x0c" + number(6) + number(0) + "\x01" + below + "\xff" + below + "\xfe" + "\x0f" + number(0) + number(0) +
			number(3) + number(1) + "\x03" + number(2) + number(2) + "\x02" + number(1) + number(3) + "\x01" + number(0) +
			number(2) + number(0) + number(5) + number(4)},
		{cnt, raw(cnt)},
	} {
		s, e := obj.Write(c.o)
		if e != api.OK || s != c.want || raw(c.o) != c.want {
			t.Errorf("Write of %+v: %q %d, must be %q", c.o, s, e, c.want)
		}
		o, e := obj.Read(c.want)
		if e != api.OK || !same(o, c.o) {
			t.Errorf("Read of %q: %+v %d, must be %+v", c.want, o, e, c.o)
		}
	}
	if s, _ := obj.Write(cnt); len(s) != 519 {
		t.Errorf("the example has %d bytes", len(s))
	}
}

// H2: bytes that are cut off anywhere, and bytes more behind.
func TestCutOff(t *testing.T) {
	for _, o := range []api.Object{{Name: "a", Code: []api.Instr{{Op: api.OpHalt}}}, some(), cnt} {
		s := raw(o)
		for i := range len(s) {
			wantRead(t, fmt.Sprintf("%d bytes of %s", i, o.Name), s[:i], api.ErrForm)
			wantRead(t, fmt.Sprintf("all but the first %d of %s", i+1, o.Name), s[i+1:], api.ErrForm)
		}
		for b := range 256 {
			wantRead(t, fmt.Sprintf("%s and %d", o.Name, b), s+string([]byte{byte(b)}), api.ErrForm)
		}
		wantRead(t, o.Name+" twice", s+s, api.ErrForm)
		wantRead(t, o.Name, s, api.OK)
	}
}

// H2: numbers of elements that are below 0, or above what there is.
func TestCounts(t *testing.T) {
	o := some()
	s := raw(o)
	o.Uses, o.Code, o.Fixes, o.Entries = nil, []api.Instr{{Op: api.OpHalt}}, nil, nil
	o.Main = 0
	bare := raw(o)
	wantRead(t, "a bare object", bare, api.OK)
	// Where the numbers of uses, code, fixes and entries stand in each.
	for _, c := range []struct {
		s  string
		at []int
	}{{s, []int{5, 26, 136, 195}}, {bare, []int{5, 21, 46, 54}}} {
		for _, at := range c.at {
			was := c.s[at : at+8]
			for _, n := range []string{"\xff\xff\xff\xff\xff\xff\xff\xff", "\xff\xff\xff\xff\xff\xff\xff\xfe", "\x80\x00\x00\x00\x00\x00\x00\x00", "\x7f\xff\xff\xff\xff\xff\xff\xff", "\x00\x00\x00\x01\x00\x00\x00" + was[7:], "\x00\x00\x00\x00\x00\x01\x00" + was[7:], "\x80\x00\x00\x00\x00\x00\x00" + was[7:]} {
				wantRead(t, fmt.Sprintf("%q at %d", n, at), c.s[:at]+n+c.s[at+8:], api.ErrForm)
			}
			for n := range 16 {
				if want := "\x00\x00\x00\x00\x00\x00\x00" + string([]byte{byte(n)}); want != was {
					wantRead(t, fmt.Sprintf("%d at %d", n, at), c.s[:at]+want+c.s[at+8:], api.ErrForm)
				}
			}
			if strings.Trim(was[:7], "\x00") != "" {
				t.Errorf("there is no number at %d of %q", at, c.s)
			}
		}
	}
}

// sized tells a right object whose Name has n bytes: with four of them it has MaxBytes in all.
func sized(n int) api.Object {
	o := api.Object{Name: strings.Repeat("m", n), Uses: []string{"abcdefg1", "abcdefg2", "abcdefg3"}, Entries: []int{0, 1, 2, 3, 4, 5}}
	o.Code = repeat(api.Instr{Op: api.OpLoad, A: 1}, 1000)
	for i := range 920 {
		o.Fixes = append(o.Fixes, api.Fix{At: i, Kind: api.FixData, M: i % 4})
	}
	return o
}

// H2: as many bytes as may be, and one more, by Write and by Read.
func TestMaxBytes(t *testing.T) {
	for n := 1; n <= api.MaxName; n++ {
		o, want := sized(n), api.OK
		if len(raw(o)) != api.MaxBytes-4+n {
			t.Fatalf("it has %d bytes", len(raw(o)))
		}
		if n > 4 {
			want = api.ErrMany
		}
		if e := obj.Check(o); e != api.OK {
			t.Errorf("Check of %d bytes: %d", len(raw(o)), e)
		}
		if s, e := obj.Write(o); e != want || e == api.OK && s != raw(o) || e != api.OK && s != "" {
			t.Errorf("Write of %d bytes: %d bytes, %d", len(raw(o)), len(s), e)
		}
		wantRead(t, fmt.Sprint(len(raw(o)), " bytes"), raw(o), want)
	}
	full := api.Object{Name: "a", Code: repeat(api.Instr{Op: api.OpNop}, api.MaxCode)}
	if s, e := obj.Write(full); e != api.ErrMany || s != "" || obj.Check(full) != api.OK {
		t.Errorf("Write of MaxCode instructions: %d bytes, %d", len(s), e)
	}
	wantRead(t, "MaxCode instructions", raw(full), api.ErrMany)
	for _, s := range []string{"", raw(cnt), raw(some()), "\xff", "a"} {
		at := s + strings.Repeat("a", api.MaxBytes-len(s))
		wantRead(t, "MaxBytes of anything", at, api.ErrForm)
		wantRead(t, "MaxBytes and one of anything", at+"a", api.ErrMany)
		wantRead(t, "far more", at+at, api.ErrMany)
	}
}

// someObject tells a right object.
func someObject(g *rand.Rand) api.Object {
	o := api.Object{Name: []string{"a", "b1", "abcdefgh"}[g.Intn(3)], Uses: []string{"x", "yyyy", "in"}[:g.Intn(4)], Data: g.Intn(api.MaxData + 1)}
	for range 1 + g.Intn(20) {
		o.Code = append(o.Code, api.Instr{Op: 1 + g.Intn(22), A: int(g.Uint64()) >> g.Intn(64), B: int(g.Uint64()) >> g.Intn(64)})
	}
	for i := range o.Code {
		if g.Intn(3) > 0 {
			continue
		}
		f := api.Fix{At: i, Kind: 1 + g.Intn(3), M: g.Intn(len(o.Uses) + 1)}
		o.Code[i].A = g.Intn(api.MaxCode + 1)
		if f.Kind == api.FixCode {
			f.M, o.Code[i].A = 0, g.Intn(len(o.Code)+1)
		}
		o.Fixes = append(o.Fixes, f)
	}
	for range g.Intn(api.MaxProcs + 1) {
		o.Entries = append(o.Entries, g.Intn(len(o.Code)))
	}
	o.Main = g.Intn(len(o.Code))
	return o
}

// H3, P3: what is written is read as it was; the same each time.
func TestThereAndBack(t *testing.T) {
	g := rand.New(rand.NewSource(3))
	for range 3000 {
		o := someObject(g)
		s, e := obj.Write(o)
		again, _ := obj.Write(o)
		if obj.Check(o) != api.OK || e != api.OK || s != raw(o) || again != s {
			t.Fatalf("Write of %+v: %q %d, then %q", o, s, e, again)
		}
		back, e := obj.Read(s)
		if e != api.OK || !same(back, o) {
			t.Fatalf("Read of %q: %+v %d, must be %+v", s, back, e, o)
		}
	}
}

// wantOnly tells 1, if the bytes are read: then they are those that are written of the object.
func wantOnly(t *testing.T, s string) int {
	t.Helper()
	o, e := obj.Read(s)
	if e != api.OK {
		if e != api.ErrForm || !same(o, api.Object{}) {
			t.Fatalf("Read of %q: %+v %d", s, o, e)
		}
		return 0
	}
	back, d := obj.Write(o)
	if obj.Check(o) != api.OK || d != api.OK || back != s || raw(o) != s {
		t.Fatalf("%q is read as %+v, of which %q %d is written", s, o, back, d)
	}
	return 1
}

// H3: whatever bytes are read, they are those that are written of the object.
func TestNothingElse(t *testing.T) {
	read := 0
	for _, o := range []api.Object{{Name: "a", Code: []api.Instr{{Op: api.OpHalt}}}, some()} {
		s := []byte(raw(o))
		for i, was := range s {
			for b := range 256 {
				s[i] = byte(b)
				read += wantOnly(t, string(s))
			}
			s[i] = was
		}
	}
	g := rand.New(rand.NewSource(5))
	for range 10000 {
		b := []byte(raw(someObject(g)))
		for range g.Intn(3) {
			i := g.Intn(len(b))
			switch g.Intn(4) {
			case 0:
				b = append(b[:i:i], b[min(len(b), i+1+g.Intn(18)):]...)
			case 1:
				b = slices.Insert(b, i, byte(g.Intn(256)))
			default:
				b[i] = byte(g.Intn(5))
			}
			if len(b) == 0 {
				break
			}
		}
		read += wantOnly(t, string(b))
	}
	if read < 5000 {
		t.Errorf("only %d were read", read)
	}
}

// P1: no bytes, whatever they are, and no object panics.
func TestAnything(t *testing.T) {
	g := rand.New(rand.NewSource(4))
	for range 10000 {
		b := make([]byte, g.Intn(200))
		for i := range b {
			b[i] = []byte{0, 0, 0, 1, 2, 'a', 'b', byte(g.Intn(256))}[g.Intn(8)]
		}
		wantOnly(t, string(b))
		o := someObject(g)
		n := int(g.Uint64()) >> g.Intn(64)
		switch g.Intn(9) {
		case 0:
			o.Name = string(b)
		case 1:
			o.Uses = append(o.Uses[:len(o.Uses):len(o.Uses)], string(b))
		case 2:
			o.Data = n
		case 3:
			o.Code[g.Intn(len(o.Code))] = api.Instr{Op: n, A: n, B: n}
		case 4:
			o.Fixes = append(o.Fixes, api.Fix{At: n, Kind: g.Intn(5), M: n})
		case 5:
			o.Fixes = append(o.Fixes, o.Fixes...)
		case 6:
			o.Entries = append(o.Entries, n)
		case 7:
			o.Main = n
		}
		if s, e := obj.Write(o); e != obj.Check(o) || e != api.OK && s != "" || e == api.OK && s != raw(o) {
			t.Fatalf("Write of %+v: %q %d", o, s, e)
		}
	}
}

// spare tells an object whose lists have room with something in it behind them.
func spare() api.Object {
	o := some()
	o.Uses = append(o.Uses, "spare")[:len(o.Uses)]
	o.Code = append(o.Code, api.Instr{Op: 77})[:len(o.Code)]
	o.Fixes = append(o.Fixes, api.Fix{At: 77})[:len(o.Fixes)]
	o.Entries = append(o.Entries, 77)[:len(o.Entries)]
	return o
}

// P2: what is handed in stays as it is, with the spare room behind its lists; a later change is not seen.
func TestHandedIn(t *testing.T) {
	o := spare()
	s, e := obj.Write(o)
	o.Uses, o.Code, o.Fixes, o.Entries = o.Uses[:3], o.Code[:7], o.Fixes[:4], o.Entries[:3]
	want := some()
	want.Uses, want.Code, want.Fixes, want.Entries = append(want.Uses, "spare"), append(want.Code, api.Instr{Op: 77}), append(want.Fixes, api.Fix{At: 77}), append(want.Entries, 77)
	if e != api.OK || !same(o, want) || s != raw(some()) {
		t.Errorf("%d: it is %+v, and was %+v", e, o, want)
	}
	if e := obj.Check(spare()); e != api.OK {
		t.Errorf("Check with spare room: %d", e)
	}
}

// P2, P3: an answer is the caller's.
func TestAnswers(t *testing.T) {
	s := raw(some())
	first, _ := obj.Read(s)
	second, _ := obj.Read(s)
	for i := range first.Uses[:cap(first.Uses)] {
		first.Uses[:cap(first.Uses)][i] = "other"
	}
	for i := range first.Code[:cap(first.Code)] {
		first.Code[:cap(first.Code)][i].A = 99
	}
	for i := range first.Fixes[:cap(first.Fixes)] {
		first.Fixes[:cap(first.Fixes)][i].At = 99
	}
	for i := range first.Entries[:cap(first.Entries)] {
		first.Entries[:cap(first.Entries)][i] = 99
	}
	third, e := obj.Read(s)
	if e != api.OK || !same(second, some()) || !same(third, some()) {
		t.Errorf("%+v and %+v %d, must be %+v", second, third, e, some())
	}
}
