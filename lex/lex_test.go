package lex

import (
	"math"
	"math/rand"
	"reflect"
	"slices"
	"strings"
	"testing"
	"unsafe"

	"bellwright/api"
)

func word(s string) api.Tok { return api.Tok{Kind: api.Word, Text: s} }

func sign(s string) api.Tok { return api.Tok{Kind: api.Sign, Text: s} }

func num(n int) api.Tok { return api.Tok{Kind: api.Number, N: n} }

// repeat tells n tokens that are all the same.
func repeat(t api.Tok, n int) []api.Tok {
	return slices.Repeat([]api.Tok{t}, n)
}

// same holds lists against each other, of which an empty one may be nil or not.
func same(a, b []api.Tok) bool {
	return slices.Equal(a, b)
}

const (
	letters  = "abcdefghijklmnopqrstuvwxyz"
	digits   = "0123456789"
	allSigns = "{ } ( ) [ ] , ; = . + - * / % < ! & |"
)

// A1: which tokens are such.
func TestCheckOneToken(t *testing.T) {
	for _, c := range []struct {
		tok  api.Tok
		want api.Errno
	}{
		{word("a"), api.OK},
		{word("z"), api.OK},
		{word("a0"), api.OK},
		{word("z9"), api.OK},
		{word("if"), api.OK},
		{word("abcdefgh"), api.OK},
		{word("abcdefghi"), api.ErrForm},
		{word("a1234567"), api.OK},
		{word("a12345678"), api.ErrForm},
		{word(strings.Repeat("a", 1<<16)), api.ErrForm},
		{word(""), api.ErrForm},
		{word("0"), api.ErrForm},
		{word("1a"), api.ErrForm},
		{word("A"), api.ErrForm},
		{word("aA"), api.ErrForm},
		{word("a b"), api.ErrForm},
		{word("a "), api.ErrForm},
		{word(" a"), api.ErrForm},
		{word("a."), api.ErrForm},
		{word("="), api.ErrForm},
		{word("\xc3\xa4"), api.ErrForm},
		{word("a\x00"), api.ErrForm},
		{api.Tok{Kind: api.Word, Text: "a", N: 1}, api.ErrForm},
		{api.Tok{Kind: api.Word, Text: "a", N: -1}, api.ErrForm},
		{num(0), api.OK},
		{num(1), api.OK},
		{num(-1), api.ErrForm},
		{num(api.MaxNumber), api.OK},
		{num(api.MaxNumber + 1), api.ErrForm},
		{num(math.MaxInt), api.ErrForm},
		{num(math.MinInt), api.ErrForm},
		{api.Tok{Kind: api.Number, N: 5, Text: "5"}, api.ErrForm},
		{api.Tok{Kind: api.Number, Text: "a"}, api.ErrForm},
		{sign(""), api.ErrForm},
		{sign("=="), api.ErrForm},
		{sign("{}"), api.ErrForm},
		{sign("a"), api.ErrForm},
		{sign("0"), api.ErrForm},
		{sign(" "), api.ErrForm},
		{sign("\n"), api.ErrForm},
		{sign("?"), api.ErrForm},
		{sign(">"), api.ErrForm},
		{api.Tok{Kind: api.Sign, Text: "=", N: 1}, api.ErrForm},
		{api.Tok{Kind: api.Sign, Text: "=", N: -1}, api.ErrForm},
		{api.Tok{}, api.ErrKind},
		{api.Tok{Kind: -1, Text: "a"}, api.ErrKind},
		{api.Tok{Kind: 4, Text: "a"}, api.ErrKind},
		{api.Tok{Kind: math.MaxInt}, api.ErrKind},
		{api.Tok{Kind: math.MinInt}, api.ErrKind},
	} {
		if got := Check([]api.Tok{c.tok}); got != c.want {
			t.Errorf("Check of %.40q: %d, must be %d", c.tok.Text, got, c.want)
		}
	}
}

// A1: each byte as a sign, as a word, and behind a letter.
func TestCheckEachByte(t *testing.T) {
	for b := range 256 {
		s := string([]byte{byte(b)})
		isSign := s != " " && strings.Contains(allSigns, s)
		if got := Check([]api.Tok{sign(s)}) == api.OK; got != isSign {
			t.Errorf("sign %q: %v", s, got)
		}
		if got := Check([]api.Tok{word(s)}) == api.OK; got != strings.Contains(letters, s) {
			t.Errorf("word %q: %v", s, got)
		}
		if got := Check([]api.Tok{word("a" + s + "b")}) == api.OK; got != strings.Contains(letters+digits, s) {
			t.Errorf("word %q: %v", "a"+s+"b", got)
		}
	}
}

// A1: which error is told, if several apply; limits.
func TestCheckOrder(t *testing.T) {
	full := repeat(word("a"), api.MaxText)
	beyond := repeat(word("a"), api.MaxText+1)
	wrong := word("?")
	for i, c := range []struct {
		l    []api.Tok
		want api.Errno
	}{
		{nil, api.OK},
		{[]api.Tok{}, api.OK},
		{full, api.OK},
		{beyond, api.ErrMany},
		{repeat(word("a"), 3*api.MaxText), api.ErrMany},
		{append(slices.Clone(beyond), wrong), api.ErrForm},
		{append([]api.Tok{wrong}, beyond...), api.ErrForm},
		{append(slices.Clone(beyond), api.Tok{}), api.ErrKind},
		{append([]api.Tok{{}}, beyond...), api.ErrKind},
		{[]api.Tok{wrong, {}}, api.ErrKind},
		{[]api.Tok{{}, wrong}, api.ErrKind},
		{[]api.Tok{word("a"), wrong}, api.ErrForm},
		{[]api.Tok{wrong, word("a")}, api.ErrForm},
		{append(append(slices.Clone(beyond), wrong), api.Tok{Kind: 4}), api.ErrKind},
		{repeat(api.Tok{}, api.MaxText+1), api.ErrKind},
	} {
		if got := Check(c.l); got != c.want {
			t.Errorf("%d: Check %d, must be %d", i, got, c.want)
		}
		s, got := Show(c.l)
		if got != c.want || got != api.OK && s != "" {
			t.Errorf("%d: Show %d %.20q, must be %d", i, got, s, c.want)
		}
	}
}

// A2: texts and their tokens.
func TestLex(t *testing.T) {
	for _, c := range []struct {
		s    string
		want []api.Tok
	}{
		{"", nil},
		{" ", nil},
		{"\n", nil},
		{" \n \n\n  ", nil},
		{"a", []api.Tok{word("a")}},
		{" a\n", []api.Tok{word("a")}},
		{"a b", []api.Tok{word("a"), word("b")}},
		{"a\nb", []api.Tok{word("a"), word("b")}},
		{"a  \n b", []api.Tok{word("a"), word("b")}},
		{"ab", []api.Tok{word("ab")}},
		{"if(a1<20)\n x", []api.Tok{word("if"), sign("("), word("a1"), sign("<"), num(20), sign(")"), word("x")}},
		{"0", []api.Tok{num(0)}},
		{"0 0", []api.Tok{num(0), num(0)}},
		{"0 1", []api.Tok{num(0), num(1)}},
		{"9", []api.Tok{num(9)}},
		{"10", []api.Tok{num(10)}},
		{"1234567890", []api.Tok{num(1234567890)}},
		{"1 a", []api.Tok{num(1), word("a")}},
		{"a1", []api.Tok{word("a1")}},
		{"a 1", []api.Tok{word("a"), num(1)}},
		{"1.a", []api.Tok{num(1), sign("."), word("a")}},
		{"1.2", []api.Tok{num(1), sign("."), num(2)}},
		{"-1", []api.Tok{sign("-"), num(1)}},
		{"==", []api.Tok{sign("="), sign("=")}},
		{"a=-1", []api.Tok{word("a"), sign("="), sign("-"), num(1)}},
		{"abcdefgh", []api.Tok{word("abcdefgh")}},
		{"abcdefgh abcdefgh", []api.Tok{word("abcdefgh"), word("abcdefgh")}},
		{"z9y8x7w6", []api.Tok{word("z9y8x7w6")}},
		{"1099511627775", []api.Tok{num(api.MaxNumber)}},
	} {
		got, e := Lex(c.s)
		if e != api.OK || !same(got, c.want) {
			t.Errorf("Lex of %q: %v %d, must be %v", c.s, got, e, c.want)
		}
	}
}

// A2: texts that have no tokens.
func TestLexWrong(t *testing.T) {
	for _, s := range []string{
		"01", "00", "007", "a 01", "01 a", "1a", "0a", "12ab", "a 1a", "A", "aB", "Ab", "1A",
		"abcdefghi", "a12345678", "a abcdefghi a", "1099511627776", "9999999999999", "10995116277750",
		"9223372036854775807", "9223372036854775808", "18446744073709551616", "18446744073709551617",
		"36893488147419103233", strings.Repeat("1", 4096), strings.Repeat("a", 4096),
		"\t", "a\tb", "\r", "a\r\nb", "\x00", "\x7f", "\x80", "\xff", "a?", "?a", "a_b", "a>b", "\"", "'", "`", "~", "^", "@", "#", "$", ":", "\\",
		"\xc3\xa4", "a\xe2\x80\xa8b", "\u00a0", "\v", "\f",
	} {
		l, e := Lex(s)
		if e != api.ErrForm || len(l) != 0 {
			t.Errorf("Lex of %.40q: %d tokens %d, must be ErrForm", s, len(l), e)
		}
	}
}

// A2: each byte between two words.
func TestLexEachByte(t *testing.T) {
	for b := range 256 {
		s := string([]byte{byte(b)})
		l, e := Lex("a" + s + "b")
		var want []api.Tok
		switch {
		case s == " " || s == "\n":
			want = []api.Tok{word("a"), word("b")}
		case strings.Contains(allSigns, s):
			want = []api.Tok{word("a"), sign(s), word("b")}
		case strings.Contains(letters+digits, s):
			want = []api.Tok{word("a" + s + "b")}
		}
		if !same(l, want) || (e == api.OK) != (want != nil) || want == nil && e != api.ErrForm {
			t.Errorf("byte %q: %v %d", s, l, e)
		}
	}
}

// A2: how many bytes there may be, and that this is asked first.
func TestLexMany(t *testing.T) {
	for i, c := range []struct {
		s    string
		n    int
		want api.Errno
	}{
		{strings.Repeat("{", api.MaxText), api.MaxText, api.OK},
		{strings.Repeat("{", api.MaxText+1), 0, api.ErrMany},
		{strings.Repeat(" ", api.MaxText), 0, api.OK},
		{strings.Repeat(" ", api.MaxText+1), 0, api.ErrMany},
		{strings.Repeat("a ", api.MaxText/2), api.MaxText / 2, api.OK},
		{strings.Repeat("?", api.MaxText), 0, api.ErrForm},
		{strings.Repeat("?", api.MaxText+1), 0, api.ErrMany},
		{"?" + strings.Repeat("a", 1<<20), 0, api.ErrMany},
	} {
		l, e := Lex(c.s)
		if e != c.want || len(l) != c.n {
			t.Errorf("%d: %d tokens %d, must be %d and %d", i, len(l), e, c.n, c.want)
		}
	}
}

// A3: tokens and their texts.
func TestShow(t *testing.T) {
	for _, c := range []struct {
		l    []api.Tok
		want string
	}{
		{nil, ""},
		{[]api.Tok{word("a")}, "a"},
		{[]api.Tok{num(0)}, "0"},
		{[]api.Tok{num(api.MaxNumber)}, "1099511627775"},
		{[]api.Tok{sign("=")}, "="},
		{[]api.Tok{word("a"), word("b")}, "a b"},
		{[]api.Tok{word("if"), sign("("), word("a1"), sign("<"), num(20), sign(")"), word("x")}, "if ( a1 < 20 ) x"},
		{[]api.Tok{num(1), num(2), sign("-"), num(3)}, "1 2 - 3"},
	} {
		s, e := Show(c.l)
		if e != api.OK || s != c.want {
			t.Errorf("Show of %v: %q %d, must be %q", c.l, s, e, c.want)
		}
	}
	l, _ := Lex(strings.ReplaceAll(allSigns, " ", ""))
	if s, e := Show(l); s != allSigns || e != api.OK {
		t.Errorf("signs: %q %d", s, e)
	}
}

func anyToken(r *rand.Rand) api.Tok {
	switch r.Intn(3) {
	case 0:
		b := []byte{letters[r.Intn(len(letters))]}
		for range r.Intn(api.MaxName) {
			b = append(b, (letters + digits)[r.Intn(36)])
		}
		return word(string(b))
	case 1:
		return num(r.Intn(api.MaxNumber+1) >> r.Intn(41))
	}
	return sign(strings.Fields(allSigns)[r.Intn(19)])
}

// A3: Lex of Show are the tokens, if there are not too many bytes; with more of them Show shows all the same.
func TestLexOfShow(t *testing.T) {
	r := rand.New(rand.NewSource(1))
	for range 2000 {
		var l []api.Tok
		for range r.Intn(40) {
			l = append(l, anyToken(r))
		}
		s, e := Show(l)
		got, f := Lex(s)
		if e != api.OK || f != api.OK || !same(got, l) {
			t.Fatalf("tokens %v: %q %d, %v %d", l, s, e, got, f)
		}
	}
	s, e := Show(repeat(word("abcdefgh"), api.MaxText))
	if e != api.OK || len(s) != 9*api.MaxText-1 {
		t.Errorf("as many tokens as may be: %d bytes %d", len(s), e)
	}
	if l, e := Lex(s); len(l) != 0 || e != api.ErrMany {
		t.Errorf("more bytes than may be: %d tokens %d", len(l), e)
	}
}

// P1 and A2: whatever text is handed in, it has right tokens, or an error without any.
func TestLexAnything(t *testing.T) {
	r := rand.New(rand.NewSource(2))
	const likely = "ab19 0\n{}()[],;=.+-*/%<!&|"
	for range 20000 {
		b := make([]byte, r.Intn(20))
		for i := range b {
			b[i] = likely[r.Intn(len(likely))]
			if r.Intn(40) == 0 {
				b[i] = byte(r.Intn(256))
			}
		}
		l, e := Lex(string(b))
		again, f := Lex(string(b))
		if !same(l, again) || e != f {
			t.Fatalf("%q: %v %d, then %v %d", b, l, e, again, f)
		}
		if e != api.OK && (e != api.ErrForm || len(l) != 0) {
			t.Fatalf("%q: %d tokens %d", b, len(l), e)
		}
		s, f := Show(l)
		blankless := strings.NewReplacer(" ", "", "\n", "")
		if f != api.OK || e == api.OK && blankless.Replace(s) != blankless.Replace(string(b)) {
			t.Fatalf("%q: shown as %q %d", b, s, f)
		}
	}
}

// P1: whatever tokens are handed in, nothing panics, and Show tells what Check does.
func TestTokensAnything(t *testing.T) {
	r := rand.New(rand.NewSource(3))
	for range 20000 {
		l := make([]api.Tok, r.Intn(5))
		for i := range l {
			l[i] = anyToken(r)
			switch r.Intn(12) {
			case 0:
				l[i].Kind = r.Intn(7) - 2
			case 1:
				l[i].N = int(r.Uint64())
			case 2:
				b := make([]byte, r.Intn(10))
				r.Read(b)
				l[i].Text = string(b)
			}
		}
		e := Check(l)
		s, f := Show(l)
		if e != f || e != api.OK && s != "" {
			t.Fatalf("%v: Check %d, Show %q %d", l, e, s, f)
		}
		if got, g := Lex(s); e == api.OK && (g != api.OK || !same(got, l)) {
			t.Fatalf("%v: shown as %q, read as %v %d", l, s, got, g)
		}
	}
}

// P2: what is handed in stays, with the spare room behind it, and no answer shares memory with another one.
func TestHandedIn(t *testing.T) {
	room := []api.Tok{word("a"), num(1), sign("="), word("spare"), num(9)}
	before := slices.Clone(room)
	for _, n := range []int{0, 1, 2, 3} {
		Check(room[:n])
		Show(room[:n])
	}
	bad := room[:3]
	bad[1].Kind = 7
	Check(bad)
	Show(bad)
	bad[1].Kind = api.Number
	if !reflect.DeepEqual(room, before) {
		t.Errorf("changed: %v", room)
	}
	first, _ := Lex("a = 1")
	second, _ := Lex("a = 1")
	for i := range first {
		first[i] = num(7)
	}
	_ = append(first[:0:cap(first)], repeat(num(7), cap(first))...)
	if third, _ := Lex("a = 1"); !same(second, third) || second[0] != word("a") {
		t.Errorf("an answer changed with another one: %v %v", second, third)
	}
}

// lies tells whether a text lies in the memory of another one.
func lies(part, whole string) bool {
	at, from := uintptr(unsafe.Pointer(unsafe.StringData(part))), uintptr(unsafe.Pointer(unsafe.StringData(whole)))
	return at >= from && at < from+uintptr(len(whole))
}

// P2: no text of an answer lies in what was handed in.
func TestNewTexts(t *testing.T) {
	s := strings.Clone("abcdef = bcdefg;")
	l, _ := Lex(s)
	for _, k := range l {
		if lies(k.Text, s) {
			t.Errorf("%q lies in the text that was handed in", k.Text)
		}
		if shown, _ := Show([]api.Tok{k}); lies(shown, k.Text) {
			t.Errorf("%q lies in the token that was handed in", shown)
		}
	}
}
