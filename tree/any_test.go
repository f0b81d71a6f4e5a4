package tree

import (
	"fmt"
	"math/rand"
	"reflect"
	"slices"
	"strings"
	"testing"

	"bellwright/api"
	"bellwright/lex"
)

// maker makes modules by chance, the same each time; one in wild of its things is wrong (none, if that is 0).
type maker struct {
	*rand.Rand
	wild int
}

func (g maker) odd() bool { return g.wild > 0 && g.Intn(g.wild) == 0 }

func (g maker) name() string {
	if g.odd() {
		return []string{"", "in", "A", "1a", "abcdefghi", "a.b"}[g.Intn(6)]
	}
	return []string{"a", "b1", "abcdefgh", "z", "ins"}[g.Intn(5)]
}

func (g maker) mod() string {
	if g.Intn(3) == 0 {
		return g.name()
	}
	return ""
}

func (g maker) names(most int) []string {
	var l []string
	for range g.count(most) {
		l = append(l, g.name())
	}
	return l
}

func (g maker) count(most int) int {
	if g.odd() {
		return g.Intn(2*most + 1)
	}
	return g.Intn(most + 1)
}

func (g maker) exprs(n, deep int) []api.Expr {
	var l []api.Expr
	if g.odd() {
		n = g.Intn(6)
	}
	for range n {
		l = append(l, g.expr(deep))
	}
	return l
}

func (g maker) expr(deep int) api.Expr {
	x := api.Expr{Op: 1 + g.Intn(15)}
	if deep >= api.MaxDeep && !g.odd() || deep > api.MaxDeep+2 {
		x.Op = 1 + g.Intn(3)
	}
	switch x.Op {
	case api.Num:
		x.N = g.Intn(api.MaxNumber+1) >> g.Intn(41)
	case api.In:
	case api.Var:
		x.Mod, x.Name = g.mod(), g.name()
	case api.Elem:
		x.Mod, x.Name, x.Args = g.mod(), g.name(), g.exprs(1, deep+1)
	case api.Call:
		x.Mod, x.Name, x.Args = g.mod(), g.name(), g.exprs(g.count(api.MaxParams), deep+1)
	case api.Not:
		x.Args = g.exprs(1, deep+1)
	default:
		x.Args = g.exprs(2, deep+1)
	}
	if g.odd() {
		x.Op = g.Intn(20) - 2
	}
	if g.odd() {
		x.N = int(g.Uint64())
	}
	if g.odd() {
		x.Name = g.name()
	}
	return x
}

func (g maker) block(deep int) []api.Stmt {
	var l []api.Stmt
	for range g.count(3) {
		l = append(l, g.stmt(deep))
	}
	return l
}

func (g maker) stmt(deep int) api.Stmt {
	s := api.Stmt{Op: 1 + g.Intn(7)}
	if deep >= api.MaxDeep && !g.odd() || deep > api.MaxDeep+2 {
		s.Op = []int{api.Set, api.Put, api.Do, api.Return, api.Out}[g.Intn(5)]
	}
	args := 1
	switch s.Op {
	case api.Set, api.Put, api.Do:
		s.Mod, s.Name = g.mod(), g.name()
		if s.Op == api.Put {
			args = 2
		} else if s.Op == api.Do {
			args = g.count(api.MaxParams)
		}
	case api.If:
		s.Body, s.Other = g.block(deep+1), g.block(deep+1)
	case api.While:
		s.Body = g.block(deep + 1)
	}
	s.Args = g.exprs(args, 1)
	if g.odd() {
		s.Op = g.Intn(12) - 2
	}
	if g.odd() && deep < api.MaxDeep+2 {
		s.Body = g.block(deep + 1)
	}
	if g.odd() && deep < api.MaxDeep+2 {
		s.Other = g.block(deep + 1)
	}
	return s
}

func (g maker) module() api.Module {
	m := api.Module{Name: g.name(), Uses: g.names(api.MaxUses), Main: g.block(1)}
	for range g.count(4) {
		d := api.Decl{Kind: 1 + g.Intn(3), Name: g.name(), Pub: g.Intn(2) == 0}
		if d.Kind == api.Const {
			d.N = g.Intn(api.MaxNumber + 1)
		} else if d.Kind == api.Array {
			d.N = 1 + g.Intn(api.MaxArray)
		}
		if g.odd() {
			d.N = g.Intn(80) - 20
		}
		if g.odd() {
			d.Kind = g.Intn(6) - 1
		}
		m.Decls = append(m.Decls, d)
	}
	for range g.count(3) {
		m.Procs = append(m.Procs, api.Proc{Name: g.name(), Pub: g.Intn(2) == 0, Params: g.names(api.MaxParams), Locals: g.names(api.MaxLocals), Body: g.block(1)})
	}
	return m
}

// B4: Parse of Show is the module, if there are not too many bytes.
func TestParseOfShow(t *testing.T) {
	g := maker{rand.New(rand.NewSource(1)), 0}
	short := 0
	for range 2000 {
		m := g.module()
		s, e := Show(m)
		if len(strings.Fields(s)) > api.MaxText {
			t.Fatalf("%d tokens are shown", len(strings.Fields(s)))
		}
		if e == api.ErrMany && Check(m) == api.OK {
			continue
		}
		if e != api.OK {
			t.Fatalf("Show of a right module: %d\n%+v", e, m)
		}
		got, f := Parse(s)
		if len(s) > api.MaxText {
			if f != api.ErrMany || !isZero(got) {
				t.Fatalf("%d bytes: Parse %d", len(s), f)
			}
			continue
		}
		short++
		if f != api.OK || !same(got, m) {
			t.Fatalf("%s\nis parsed with %d as\n%+v\nnot as\n%+v", s, f, got, m)
		}
	}
	if short < 1000 {
		t.Errorf("only %d modules were short enough", short)
	}
}

// B4 and P1: what is parsed is right and shown by the same tokens; else there is an error, and nothing beside it.
func TestParseAnything(t *testing.T) {
	g := maker{rand.New(rand.NewSource(2)), 0}
	words := append(strings.Fields(keptWords+" { } ( ) [ ] , ; = . + - * / % < ! & |"), "x", "y", "0", "1", "33", "?", "01")
	right := 0
	for range 10000 {
		s := oneLine(wholeText)
		if g.Intn(2) == 0 {
			s, _ = Show(g.module())
		}
		l := strings.Fields(s)
		for range g.Intn(3) {
			i := g.Intn(len(l) + 1)
			switch w := words[g.Intn(len(words))]; {
			case g.Intn(2) == 0:
				l = slices.Insert(l, i, w)
			case i < len(l) && g.Intn(2) == 0:
				l = slices.Delete(l, i, i+1)
			case i < len(l):
				l[i] = w
			}
		}
		s = strings.Join(l, " ")
		m, e := Parse(s)
		if e != api.OK {
			if !isZero(m) || (e == api.ErrMany) != (len(s) > api.MaxText) || e != api.ErrMany && e != api.ErrForm {
				t.Fatalf("%q: %d %+v", s, e, m)
			}
			continue
		}
		right++
		shown, f := Show(m)
		if f != api.OK || shown != s || Check(m) != api.OK {
			t.Fatalf("%q\nis shown with %d as\n%q", s, f, shown)
		}
	}
	if right < 500 {
		t.Errorf("only %d texts were right", right)
	}
}

// P1: whatever bytes are handed in, Parse ends, and tells the same again (P3).
func TestParseBytes(t *testing.T) {
	r := rand.New(rand.NewSource(3))
	for range 5000 {
		b := []byte(oneLine(wholeText))
		for range 1 + r.Intn(3) {
			b[r.Intn(len(b))] = byte(r.Intn(256))
		}
		b = b[:r.Intn(len(b)+1)]
		m, e := Parse(string(b))
		again, f := Parse(string(b))
		if e != f || !same(m, again) || e != api.OK && (e != api.ErrForm || !isZero(m)) {
			t.Fatalf("%q: %d %+v, then %d %+v", b, e, m, f, again)
		}
	}
}

// rightByText tells by another way whether a module without wrong kinds and without too many is right: its text is parsed as it is.
func rightByText(m api.Module) (is bool) {
	defer func() {
		if recover() != nil { // arguments or names that its text needs are missing
			is = false
		}
	}()
	got, e := Parse(lexText(moduleTokens(m)))
	return e == api.OK && same(got, m)
}

// P1 and B2: whatever module is handed in, nothing panics; Show tells what Check does; what is right is parsed as it was, and nothing else is.
func TestCheckAnything(t *testing.T) {
	count := map[api.Errno]int{}
	for seed := range 4000 {
		g := maker{rand.New(rand.NewSource(int64(seed))), 20 + seed%7*60}
		m := g.module()
		before := fmt.Sprintf("%+v", m)
		e := Check(m)
		s, f := Show(m)
		if fmt.Sprintf("%+v", m) != before {
			t.Fatalf("changed: %+v", m)
		}
		if e != f && !(e == api.OK && f == api.ErrMany) || f != api.OK && s != "" {
			t.Fatalf("Check %d, Show %d %q", e, f, s)
		}
		count[e]++
		if len(lexSafe(m)) <= api.MaxText && rightByText(m) != (e == api.OK) {
			t.Fatalf("Check %d of\n%+v", e, m)
		}
	}
	for _, e := range []api.Errno{api.OK, api.ErrKind, api.ErrMany, api.ErrForm} {
		if count[e] < 100 {
			t.Errorf("only %d modules have %d", count[e], e)
		}
	}
}

// lexSafe tells the text of whatever module, or none, if it has none.
func lexSafe(m api.Module) (s string) {
	defer func() {
		if recover() != nil {
			s = ""
		}
	}()
	return lexText(moduleTokens(m))
}

// P1: lists that lie in themselves end as well.
func TestCheckRound(t *testing.T) {
	x := []api.Expr{{Op: api.Not}}
	x[0].Args = x
	want(t, "an expression in itself", mainOf(out(x[0])), api.ErrMany)
	s := []api.Stmt{{Op: api.While, Args: []api.Expr{num(1)}}, {Op: api.If, Args: x}}
	s[0].Body, s[1].Body, s[1].Other = s, s, s
	want(t, "a block in itself", mainOf(s...), api.ErrMany)
	s[1].Op = 0
	want(t, "a wrong kind in itself", mainOf(s...), api.ErrKind)
	want(t, "a long list", mainOf(out(call("f", make([]api.Expr, 1<<16)...))), api.ErrKind)
	want(t, "a long block", mainOf(repeat(out(num(-1)), 1<<16)...), api.ErrMany)
}

// roomy puts spare room with something in it behind each list of a module.
func roomy(v reflect.Value) {
	switch v.Kind() {
	case reflect.Slice:
		n := v.Len()
		grown := reflect.MakeSlice(v.Type(), n+2, n+4)
		reflect.Copy(grown, v)
		for i := range n {
			roomy(grown.Index(i))
		}
		for i := n; i < n+2; i++ {
			mark(grown.Index(i))
		}
		v.Set(grown.Slice(0, n))
	case reflect.Struct:
		for i := range v.NumField() {
			roomy(v.Field(i))
		}
	}
}

func mark(v reflect.Value) {
	if v.Kind() == reflect.String {
		v.SetString("spare")
	} else {
		v.FieldByName("Name").SetString("spare")
	}
}

// told tells a value with the spare room behind its lists.
func told(v reflect.Value, b *strings.Builder) {
	switch v.Kind() {
	case reflect.Slice:
		full := v.Slice3(0, v.Cap(), v.Cap())
		fmt.Fprintf(b, "[%d/%d:", v.Len(), v.Cap())
		for i := range full.Len() {
			told(full.Index(i), b)
		}
		b.WriteString("]")
	case reflect.Struct:
		for i := range v.NumField() {
			told(v.Field(i), b)
		}
	default:
		fmt.Fprintf(b, "%v,", v)
	}
}

func tell(m api.Module) string {
	var b strings.Builder
	told(reflect.ValueOf(m), &b)
	return b.String()
}

// P2: what is handed in stays as it is, with the spare room behind its lists.
func TestHandedIn(t *testing.T) {
	m := whole()
	roomy(reflect.ValueOf(&m).Elem())
	wrong := whole()
	wrong.Main[0].Args[0].N = -1
	roomy(reflect.ValueOf(&wrong).Elem())
	for _, m := range []api.Module{m, wrong} {
		before := tell(m)
		if !strings.Contains(before, "spare") {
			t.Fatal("no spare room")
		}
		Check(m)
		Show(m)
		if after := tell(m); after != before {
			t.Errorf("it was\n%s\nand is\n%s", before, after)
		}
	}
}

// P2, P3: an answer is the caller's: its lists share no memory, nor with those of another answer, and its change is seen nowhere.
func TestAnswers(t *testing.T) {
	first, _ := Parse(wholeText)
	second, _ := Parse(wholeText)
	both := spans(reflect.ValueOf(first), nil)
	both = spans(reflect.ValueOf(second), both)
	if len(both) < 80 || overlap(both) {
		t.Errorf("lists share memory: %v of %d", overlap(both), len(both))
	}
	for i := range first.Main {
		first.Main[i] = api.Stmt{}
	}
	first.Uses[0], first.Decls[0].Name, first.Procs[1].Params[0] = "x", "x", "y"
	third, e := Parse(wholeText)
	if e != api.OK || !same(third, whole()) || !same(second, whole()) {
		t.Error("an answer changed with another one")
	}
	s, _ := Show(third)
	third.Name = "x"
	third.Main[0].Name = "x"
	if s != oneLine(wholeText) {
		t.Error("a text changed with its module")
	}
}

// B4: a text and what is shown of it have the same tokens, however it is laid out.
func TestSameTokens(t *testing.T) {
	for _, s := range []string{wholeText, strings.ReplaceAll(wholeText, " ", "\n"), tight(t, wholeText)} {
		m, e := Parse(s)
		shown, f := Show(m)
		if e != api.OK || f != api.OK || !slices.Equal(mustLex(t, s), mustLex(t, shown)) {
			t.Errorf("%q: %d, shown as %q %d", s, e, shown, f)
		}
	}
}

// tight tells a text with no more blanks than it needs.
func tight(t *testing.T, s string) string {
	var b strings.Builder
	last := api.Sign
	for _, k := range mustLex(t, s) {
		if last != api.Sign && k.Kind != api.Sign {
			b.WriteByte(' ')
		}
		last = k.Kind
		part, _ := lex.Show([]api.Tok{k})
		b.WriteString(part)
	}
	return b.String()
}
