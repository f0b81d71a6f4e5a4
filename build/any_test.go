package build_test

import (
	"math/rand"
	"slices"
	"strings"
	"testing"

	"bellwright/api"
	"bellwright/build"
	"bellwright/face"
	"bellwright/mach"
	"bellwright/obj"
	"bellwright/sem"
)

// shaken tells texts of which some are changed by chance: words by other words, bytes by any.
func shaken(g *rand.Rand) []string {
	l := slices.Concat(programs()...)
	g.Shuffle(len(l), func(i, k int) { l[i], l[k] = l[k], l[i] })
	if g.Intn(3) > 0 {
		l = slices.Clone(programs()[g.Intn(6)])
	}
	l = l[:g.Intn(len(l)+1)]
	for i := range l {
		for range g.Intn(3) {
			l[i] = shake(g, l[i])
		}
	}
	return l
}

func shake(g *rand.Rand, s string) string {
	words := []string{"a", "b", "use b;", "use c;", "x", "main{", "}", "out 1;", "while 1{", "pub ", "var x;", "[", "module ", strings.Repeat(" ", api.MaxText), "\xff", "0", "12345678901234"}
	at := g.Intn(len(s) + 1)
	switch g.Intn(5) {
	case 0:
		return s[:at]
	case 1:
		return s[:at] + words[g.Intn(len(words))] + s[at:]
	case 2:
		return strings.Replace(s, words[g.Intn(len(words))], words[g.Intn(len(words))], 1)
	case 3:
		return strings.Replace(s, "{", "{use "+words[g.Intn(2)]+";", 1)
	}
	return s
}

// P1: whatever texts are handed in, nothing panics, and an error comes with nothing beside.
func TestAnyTexts(t *testing.T) {
	count := map[api.Errno]int{}
	g := rand.New(rand.NewSource(12))
	for range 20000 {
		l := shaken(g)
		was := slices.Clone(l)
		u, e := build.Units(l)
		m, d := build.Build(l)
		count[e]++
		if e != api.OK && (len(u) > 0 || d != e) || d != api.OK && !same(m, api.Image{}) {
			t.Fatalf("Units of %q: %+v %d, Build %+v %d", l, u, e, m, d)
		}
		if e == api.OK && (len(u) != len(l) || sem.Check(u) != api.OK) || d == api.OK && mach.Check(m) != api.OK {
			t.Fatalf("Units of %q: %+v, Build %+v", l, u, m)
		}
		if !slices.Equal(l, was) {
			t.Fatalf("%q was %q", l, was)
		}
	}
	for _, e := range []api.Errno{api.OK, api.ErrForm, api.ErrMany, api.ErrNone, api.ErrThere, api.ErrRound} {
		if count[e] < 20 {
			t.Errorf("only %d tell %d: %v", count[e], e, count)
		}
	}
}

// P1: whatever faces are handed in.
func TestAnyFaces(t *testing.T) {
	count := map[api.Errno]int{}
	g := rand.New(rand.NewSource(13))
	_, cntFace := faceOf(t, cnt)
	_, topFace := faceOf(t, top)
	for range 20000 {
		faces := []string{cntFace, topFace, cntFace}[:g.Intn(4)]
		for i, f := range faces {
			if b := []byte(f); g.Intn(3) == 0 {
				b[g.Intn(len(b))] += byte(g.Intn(4) - 2)
				faces[i] = string(b[:len(b)-g.Intn(2)*g.Intn(len(b))])
			}
		}
		s := top
		for range g.Intn(2) {
			s = shake(g, s)
		}
		was := slices.Clone(faces)
		f, o, e := build.Compile(s, faces)
		count[e]++
		if e != api.OK && (f != "" || o != "") || !slices.Equal(faces, was) {
			t.Fatalf("Compile of %q, %q: %q %q %d", s, was, f, o, e)
		}
		if e != api.OK {
			continue
		}
		_, d := face.Read(f)
		x, c := obj.Read(o)
		if d != api.OK || c != api.OK || x.Name != parsed(t, s).Name {
			t.Fatalf("Compile of %q, %q: %q %q, which are read by %d %d", s, was, f, o, d, c)
		}
	}
	for _, e := range []api.Errno{api.OK, api.ErrForm, api.ErrMany, api.ErrCount, api.ErrNone} {
		if count[e] < 20 {
			t.Errorf("only %d tell %d: %v", count[e], e, count)
		}
	}
}
