package face

import (
	"encoding/binary"
	"fmt"
	"math"
	"math/rand"
	"slices"
	"strings"
	"testing"

	"bellwright/api"
	"bellwright/scope"
	"bellwright/tree"
)

// cnt is the face of the document's example.
var cnt = api.Face{Name: "cnt", Items: []api.Item{{Kind: api.Const, Name: "k", N: 3}, {Kind: api.Global, Name: "sum"}, {Kind: api.Array, Name: "t", N: 4, At: 1}, {Kind: api.Routine, Name: "down", N: 1}}}

// full is a right face than which none has more bytes.
func full() api.Face {
	f := api.Face{Name: "abcdefgh"}
	for i := range api.MaxDecls + api.MaxProcs {
		f.Items = append(f.Items, api.Item{Kind: api.Const, Name: fmt.Sprintf("abcdef%02d", i), N: api.MaxNumber - i})
	}
	return f
}

// same holds faces against each other, whose list may be nil or not, if it is empty.
func same(f, g api.Face) bool { return f.Name == g.Name && slices.Equal(f.Items, g.Items) }

// raw tells what the bytes of a face are, right or not.
func raw(f api.Face) string {
	b := append([]byte{byte(len(f.Name))}, f.Name...)
	b = append(b, byte(len(f.Items)))
	for _, it := range f.Items {
		b = append(b, byte(it.Kind), byte(len(it.Name)))
		b = append(b, it.Name...)
		b = binary.BigEndian.AppendUint64(b, uint64(it.N))
		b = binary.BigEndian.AppendUint64(b, uint64(it.At))
	}
	return string(b)
}

func wantRead(t *testing.T, what, s string, want api.Errno) {
	t.Helper()
	f, e := Read(s)
	if e != want || e != api.OK && !same(f, api.Face{}) {
		t.Errorf("Read of %s: %+v %d, must be %d", what, f, e, want)
	}
}

// E1: the bytes, one by one.
func TestBytes(t *testing.T) {
	for _, c := range []struct {
		f    api.Face
		want string
	}{
		{api.Face{Name: "a"}, "\x01a\x00"},
		{api.Face{Name: "abcdefgh", Items: []api.Item{}}, "\x08abcdefgh\x00"},
		{api.Face{Name: "z9", Items: []api.Item{{Kind: api.Const, Name: "x", N: 0x0102030405}}}, "\x02z9\x01" + "\x01\x01x\x00\x00\x00\x01\x02\x03\x04\x05\x00\x00\x00\x00\x00\x00\x00\x00"},
		{api.Face{Name: "m", Items: []api.Item{{Kind: api.Const, Name: "x", N: api.MaxNumber}}}, "\x01m\x01" + "\x01\x01x\x00\x00\x00\xff\xff\xff\xff\xff\x00\x00\x00\x00\x00\x00\x00\x00"},
		{api.Face{Name: "m", Items: []api.Item{{Kind: api.Array, Name: "ar", N: 32, At: 320}, {Kind: api.Routine, Name: "p", N: 3, At: 5}}},
			"\x01m\x02" + "\x03\x02ar\x00\x00\x00\x00\x00\x00\x00\x20\x00\x00\x00\x00\x00\x00\x01\x40" + "\x04\x01p\x00\x00\x00\x00\x00\x00\x00\x03\x00\x00\x00\x00\x00\x00\x00\x05"},
		{cnt, raw(cnt)},
		{full(), raw(full())},
	} {
		s, e := Write(c.f)
		if e != api.OK || s != c.want {
			t.Errorf("Write of %+v: %q %d, must be %q", c.f, s, e, c.want)
		}
		f, e := Read(c.want)
		if e != api.OK || !same(f, c.f) {
			t.Errorf("Read of %q: %+v %d, must be %+v", c.want, f, e, c.f)
		}
	}
	if s, _ := Write(cnt); len(s) != 86 {
		t.Errorf("the example has %d bytes", len(s))
	}
}

// wrong tells faces that are not right; each has few enough items and bytes that its bytes can be told.
func wrong() map[string]api.Face {
	long := full()
	long.Items = append(long.Items, api.Item{Kind: api.Global, Name: "more"})
	m := map[string]api.Face{
		"no name":        {},
		"a name of nine": {Name: "abcdefghi"},
		"a great letter": {Name: "A"},
		"a digit ahead":  {Name: "1a"},
		"a zero byte":    {Name: "a\x00"},
		"many items":     long,
		"two of a name":  {Name: "a", Items: []api.Item{{Kind: api.Global, Name: "x"}, {Kind: api.Routine, Name: "x"}}},
	}
	for what, it := range map[string]api.Item{
		"kind 0":                {Name: "x"},
		"kind 5":                {Kind: 5, Name: "x"},
		"kind 255":              {Kind: 255, Name: "x"},
		"an item without name":  {Kind: api.Const},
		"an item's long name":   {Kind: api.Const, Name: "abcdefghi"},
		"an item's wrong name":  {Kind: api.Const, Name: "x-"},
		"a constant below 0":    {Kind: api.Const, Name: "x", N: -1},
		"the least constant":    {Kind: api.Const, Name: "x", N: math.MinInt64},
		"a constant above":      {Kind: api.Const, Name: "x", N: api.MaxNumber + 1},
		"the greatest constant": {Kind: api.Const, Name: "x", N: math.MaxInt64},
		"a constant's place":    {Kind: api.Const, Name: "x", At: 1},
		"a variable's number":   {Kind: api.Global, Name: "x", N: 1},
		"a place below 0":       {Kind: api.Global, Name: "x", At: -1},
		"the least place":       {Kind: api.Global, Name: "x", At: math.MinInt64},
		"a place above":         {Kind: api.Global, Name: "x", At: api.MaxDecls*api.MaxArray + 1},
		"an array of none":      {Kind: api.Array, Name: "x"},
		"an array below 0":      {Kind: api.Array, Name: "x", N: -1},
		"an array above":        {Kind: api.Array, Name: "x", N: api.MaxArray + 1},
		"parameters below 0":    {Kind: api.Routine, Name: "x", N: -1},
		"parameters above":      {Kind: api.Routine, Name: "x", N: api.MaxParams + 1},
		"a procedure below 0":   {Kind: api.Routine, Name: "x", At: -1},
	} {
		m[what] = api.Face{Name: "a", Items: []api.Item{{Kind: api.Global, Name: "y"}, it}}
	}
	return m
}

// E1, P1: of what is not right Write tells scope.Check's error, Read ErrForm, both with nothing beside.
func TestWrongFaces(t *testing.T) {
	for what, f := range wrong() {
		want := api.ErrForm
		if what == "many items" {
			want = api.ErrMany
		}
		if e := scope.Check(f); e != want {
			t.Errorf("Check of %s: %d, must be %d", what, e, want)
		}
		if s, e := Write(f); e != want || s != "" {
			t.Errorf("Write of %s: %q %d, must be %d", what, s, e, want)
		}
		wantRead(t, what, raw(f), api.ErrForm)
	}
	// What has not one byte must not be cut down to one that is right.
	for _, kind := range []int{257, 258, -255, 1 << 32} {
		f := api.Face{Name: "a", Items: []api.Item{{Kind: kind, Name: "x"}}}
		if s, e := Write(f); e != api.ErrForm || s != "" {
			t.Errorf("Write of kind %d: %q %d", kind, s, e)
		}
	}
	f := api.Face{Name: "a", Items: make([]api.Item, 256)}
	if s, e := Write(f); e != api.ErrMany || s != "" {
		t.Errorf("Write of 256 items: %q %d", s, e)
	}
	f = api.Face{Name: strings.Repeat("a", 257)}
	if s, e := Write(f); e != api.ErrForm || s != "" {
		t.Errorf("Write of a name of 257: %q %d", s, e)
	}
	// ErrMany is told first.
	f = api.Face{Items: make([]api.Item, api.MaxDecls+api.MaxProcs+1)}
	if _, e := Write(f); e != api.ErrMany {
		t.Errorf("Write of many wrong items: %d", e)
	}
}

// E1: bytes that are cut off anywhere, and bytes more behind.
func TestCutOff(t *testing.T) {
	for _, f := range []api.Face{{Name: "a"}, cnt, full()} {
		s := raw(f)
		for i := range len(s) {
			wantRead(t, fmt.Sprintf("%d bytes of %s", i, f.Name), s[:i], api.ErrForm)
			wantRead(t, fmt.Sprintf("all but the first %d of %s", i+1, f.Name), s[i+1:], api.ErrForm)
		}
		for b := range 256 {
			wantRead(t, fmt.Sprintf("%s and %d", f.Name, b), s+string([]byte{byte(b)}), api.ErrForm)
		}
		wantRead(t, f.Name+" twice", s+s, api.ErrForm)
		wantRead(t, f.Name, s, api.OK)
	}
	wantRead(t, "255 items", "\x01a\xff"+strings.Repeat("\x02\x01b"+strings.Repeat("\x00", 16), 255), api.ErrForm)
}

// E1: as many bytes as may be, and one more, whatever they are.
func TestMaxBytes(t *testing.T) {
	for _, s := range []string{"", raw(cnt), raw(full()), "\xff", "a"} {
		at := s + strings.Repeat("a", api.MaxBytes-len(s))
		wantRead(t, "MaxBytes", at, api.ErrForm)
		wantRead(t, "MaxBytes and one", at+"a", api.ErrMany)
		wantRead(t, "far more", at+at, api.ErrMany)
	}
}

// E2: whatever bytes are read, they are those that are written of the face.
func TestNothingElse(t *testing.T) {
	read := 0
	for _, f := range []api.Face{{Name: "a"}, cnt} {
		s := []byte(raw(f))
		for i, was := range s {
			for b := range 256 {
				s[i] = byte(b)
				read += wantOnly(t, string(s))
			}
			s[i] = was
		}
	}
	g := rand.New(rand.NewSource(5))
	for range 20000 {
		read += wantOnly(t, bent(g, []byte(raw(someFace(g)))))
	}
	if read < 2000 {
		t.Errorf("only %d were read", read)
	}
}

// bent changes some of the bytes, or how many there are.
func bent(g *rand.Rand, b []byte) string {
	for range g.Intn(3) {
		i := g.Intn(len(b))
		switch g.Intn(4) {
		case 0:
			b = append(b[:i:i], b[min(len(b), i+1+g.Intn(18)):]...)
		case 1:
			b = slices.Insert(b, i, byte(g.Intn(256)))
		default:
			b[i] = byte(g.Intn(5))
		}
		if len(b) == 0 {
			break
		}
	}
	return string(b)
}

// wantOnly tells 1, if the bytes are read.
func wantOnly(t *testing.T, s string) int {
	t.Helper()
	f, e := Read(s)
	if e != api.OK {
		if e != api.ErrForm || !same(f, api.Face{}) {
			t.Fatalf("Read of %q: %+v %d", s, f, e)
		}
		return 0
	}
	back, d := Write(f)
	if scope.Check(f) != api.OK || d != api.OK || back != s || raw(f) != s {
		t.Fatalf("%q is read as %+v, of which %q %d is written", s, f, back, d)
	}
	return 1
}

// someFace tells a right face.
func someFace(g *rand.Rand) api.Face {
	f := api.Face{Name: []string{"a", "b1", "abcdefgh"}[g.Intn(3)]}
	for i := range g.Intn(api.MaxDecls + api.MaxProcs + 1) {
		it := api.Item{Kind: api.Const + g.Intn(4), Name: "n" + fmt.Sprint(i*g.Intn(2)+1000*i)}
		at := g.Intn(api.MaxDecls*api.MaxArray + 1)
		switch it.Kind {
		case api.Const:
			it.N = g.Intn(api.MaxNumber+1) >> g.Intn(41)
		case api.Global:
			it.At = at
		case api.Array:
			it.N, it.At = 1+g.Intn(api.MaxArray), at
		case api.Routine:
			it.N, it.At = g.Intn(api.MaxParams+1), at
		}
		f.Items = append(f.Items, it)
	}
	return f
}

// E2: what is written is read as it was; the same each time.
func TestThereAndBack(t *testing.T) {
	g := rand.New(rand.NewSource(3))
	for range 3000 {
		f := someFace(g)
		s, e := Write(f)
		again, _ := Write(f)
		if e != api.OK || s != raw(f) || again != s {
			t.Fatalf("Write of %+v: %q %d, then %q", f, s, e, again)
		}
		back, e := Read(s)
		if e != api.OK || !same(back, f) {
			t.Fatalf("Read of %q: %+v %d, must be %+v", s, back, e, f)
		}
	}
}

// E1: the face that chapter 3 tells of the document's module.
func TestExample(t *testing.T) {
	m, e := tree.Parse("module cnt{pub const k=3;pub var sum;pub array t[4];pub proc down(n)local i;{i=n;while i{sum=(sum+i);i=(i-1);}return sum;}main{}}")
	f, d := scope.Face(m)
	s, c := Write(f)
	back, b := Read(s)
	if e != api.OK || d != api.OK || c != api.OK || b != api.OK || len(s) != 86 || !same(back, cnt) {
		t.Errorf("%d %d %d %d: %d bytes, %+v", e, d, c, b, len(s), back)
	}
}

// P1: no bytes, whatever they are, and no face panics.
func TestAnything(t *testing.T) {
	g := rand.New(rand.NewSource(4))
	for range 20000 {
		b := make([]byte, g.Intn(60))
		for i := range b {
			b[i] = []byte{0, 1, 2, 'a', 'b', byte(g.Intn(256))}[g.Intn(6)]
		}
		wantOnly(t, string(b))
		f := someFace(g)
		for i := range f.Items {
			if g.Intn(4) == 0 {
				f.Items[i] = api.Item{Kind: g.Intn(1000) - 500, N: int(g.Uint64()), At: int(g.Uint64()), Name: string(b)}
			}
		}
		if s, e := Write(f); e != scope.Check(f) || e != api.OK && s != "" {
			t.Fatalf("Write of %+v: %q %d", f, s, e)
		}
	}
}

// P2: what is handed in stays as it is, with the spare room behind its list; a later change is not seen.
func TestHandedIn(t *testing.T) {
	room := append(slices.Clone(cnt.Items), api.Item{Name: "spare"}, api.Item{Name: "spare"})
	before := slices.Clone(room)
	f := api.Face{Name: "cnt", Items: room[:len(cnt.Items)]}
	s, _ := Write(f)
	if !slices.Equal(room, before) {
		t.Errorf("it is %+v, and was %+v", room, before)
	}
	room[0].Name = "other"
	if s != raw(cnt) {
		t.Error("a later change of the face is seen in the bytes")
	}
}

// P2, P3: an answer is the caller's.
func TestAnswers(t *testing.T) {
	s := raw(cnt)
	first, _ := Read(s)
	second, _ := Read(s)
	for i := range first.Items[:cap(first.Items)] {
		first.Items[:cap(first.Items)][i] = api.Item{Name: "other"}
	}
	third, e := Read(s)
	if e != api.OK || !same(second, cnt) || !same(third, cnt) {
		t.Errorf("%+v and %+v %d, must be %+v", second, third, e, cnt)
	}
}
