package wire

import (
	"encoding/binary"
	"math"
	"slices"
	"strings"
	"testing"
)

// E1: a number is eight bytes, the highest first.
func TestNumbers(t *testing.T) {
	for _, n := range []int{0, 1, 255, 256, 1<<40 - 1, 1 << 56, math.MaxInt64, -1, -256, math.MinInt64} {
		b := AppendNumber([]byte("x"), n)
		if want := binary.BigEndian.AppendUint64([]byte("x"), uint64(n)); !slices.Equal(b, want) {
			t.Errorf("%d: % x, must be % x", n, b, want)
		}
		if m, ok := Whole(string(b[1:]), (*Reader).Number); m != n || !ok {
			t.Errorf("%d is read as %d %v", n, m, ok)
		}
	}
}

// H2: a number of elements is a number that is not below 0.
func TestCounts(t *testing.T) {
	for _, n := range []int{0, 1, 256, math.MaxInt64, -1, -256, math.MinInt64} {
		m, ok := Whole(string(AppendNumber(nil, n)), (*Reader).Count)
		if ok != (n >= 0) || m != max(n, 0) {
			t.Errorf("%d is counted as %d %v", n, m, ok)
		}
	}
	if m, ok := Whole("\x00\x00\x00\x00\x00\x00\x01", (*Reader).Count); ok || m != 0 {
		t.Errorf("seven bytes are counted as %d %v", m, ok)
	}
}

// E1: a text is how many bytes it has, and they, any of them.
func TestTexts(t *testing.T) {
	for _, s := range []string{"", "a", "\x00\xff", strings.Repeat("b", 255)} {
		b := AppendText([]byte("x"), s)
		if want := "x" + string([]byte{byte(len(s))}) + s; string(b) != want {
			t.Errorf("%q: %q, must be %q", s, b, want)
		}
		if r, ok := Whole(string(b[1:]), (*Reader).Text); r != s || !ok {
			t.Errorf("%q is read as %q %v", s, r, ok)
		}
	}
}

// E1: what is cut off, and what has more behind, is nothing.
func TestWhole(t *testing.T) {
	pairs := func(r *Reader) []string {
		return List(r, r.Byte(), func(r *Reader) string {
			s := r.Text()
			return s + string(rune('a'+r.Number()))
		})
	}
	s := "\x02" + "\x01x\x00\x00\x00\x00\x00\x00\x00\x01" + "\x00\x00\x00\x00\x00\x00\x00\x00\x02"
	if l, ok := Whole(s, pairs); !ok || !slices.Equal(l, []string{"xb", "c"}) {
		t.Errorf("%q %v", l, ok)
	}
	for i := range len(s) {
		if l, ok := Whole(s[:i], pairs); ok || l != nil {
			t.Errorf("%d bytes: %q %v", i, l, ok)
		}
	}
	if l, ok := Whole(s+"\x00", pairs); ok || l != nil {
		t.Errorf("a byte more: %q %v", l, ok)
	}
	if l, ok := Whole("\x00", pairs); !ok || len(l) != 0 {
		t.Errorf("no pairs: %q %v", l, ok)
	}
}
