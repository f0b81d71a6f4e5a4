package gen_test

import (
	"fmt"
	"slices"
	"strings"

	"bellwright/api"
)

// texts are each kind of code as the chapter says it: @0 and @1 are the arguments, @@ all of them, $ the body, & the other.
var texts = map[string]string{
	"Num": "push N", "In": "in", "Local": "get At", "Var": "load At", "Elem": "@0, index At N, fetch", "Not": "@0, not", "Math": "@0, @1, math Op",
	"And": "@0, zero F, @1, truth, jump E, F:, push 0, E:", "Or": "@0, zero S, push 1, jump E, S:, @1, truth, E:",
	"Call": "@@, call At", "SetLocal": "@0, set At", "Set": "@0, save At", "Put": "@0, index At N, @1, store", "Do": "@@, call At, drop",
	"If": "@0, zero O, $, O:", "IfElse": "@0, zero O, $, jump E, O:, &, E:", "While": "B:, @0, zero E, tick, $, jump B, E:", "Return": "@0, ret", "Out": "@0, out",
}

// script tells what Gen must make of a unit by the texts: labels first, then places.
type script struct {
	code   []api.Instr
	to     []string // where each instruction goes, if it jumps
	fixes  []api.Fix
	labels map[string]int
	count  int
}

func (s *script) write(text string, op, n, m, at int, args []api.Node, body, other []api.Act) {
	s.count++
	own := fmt.Sprint(s.count)
	for _, x := range strings.Split(text, ", ") {
		switch {
		case x == "@@":
			for _, a := range args {
				s.node(a)
			}
		case x[0] == '@':
			s.node(args[x[1]-'0'])
		case x == "$":
			s.block(body)
		case x == "&":
			s.block(other)
		case x[len(x)-1] == ':':
			s.labels[x[:len(x)-1]+own] = len(s.code)
		default:
			s.instr(strings.Fields(x), own, map[string]int{"N": n, "At": at, "Op": op, "0": 0, "1": 1}, m)
		}
	}
}

func (s *script) instr(words []string, own string, is map[string]int, m int) {
	i := api.Instr{Op: slices.Index(opNames, words[0]) + 1}
	to := ""
	switch i.Op {
	case api.OpJump, api.OpZero:
		to = words[1] + own
		s.fixes = append(s.fixes, api.Fix{At: len(s.code), Kind: api.FixCode})
	case api.OpCall:
		s.fixes = append(s.fixes, api.Fix{At: len(s.code), Kind: api.FixProc, M: m})
	case api.OpLoad, api.OpSave, api.OpIndex:
		s.fixes = append(s.fixes, api.Fix{At: len(s.code), Kind: api.FixData, M: m})
	}
	if len(words) > 1 && to == "" {
		i.A = is[words[1]]
	}
	if len(words) > 2 {
		i.B = is[words[2]]
	}
	s.code, s.to = append(s.code, i), append(s.to, to)
}

func (s *script) node(n api.Node) {
	names := []string{"", "Num", "In", "Var", "Elem", "Call", "Not", "And", "Or", "Math", "Math", "Math", "Math", "Math", "Math", "Math", "Local"}
	s.write(texts[names[n.Op]], n.Op, n.N, n.M, n.At, n.Args, nil, nil)
}

func (s *script) block(l []api.Act) {
	for _, a := range l {
		name := []string{"", "Set", "Put", "Do", "If", "While", "Return", "Out"}[a.Op]
		if a.Op == api.If && len(a.Other) > 0 {
			name = "IfElse"
		}
		if a.Op == api.Set && a.M == -1 {
			name = "SetLocal"
		}
		s.write(texts[name], a.Op, a.N, a.M, a.At, a.Args, a.Body, a.Other)
	}
}

func (s *script) body(params, locals int, l []api.Act) int {
	at := len(s.code)
	s.code, s.to = append(s.code, api.Instr{Op: api.OpEnter, A: params, B: locals}), append(s.to, "")
	s.block(l)
	s.code, s.to = append(s.code, api.Instr{Op: api.OpPush}, api.Instr{Op: api.OpRet}), append(s.to, "", "")
	return at
}

// scripted tells the object of a right unit.
func scripted(u api.Unit) api.Object {
	s := &script{labels: map[string]int{}}
	o := api.Object{Name: u.Name, Uses: u.Uses, Data: u.Data}
	for _, p := range u.Parts {
		o.Entries = append(o.Entries, s.body(p.Params, p.Locals, p.Body))
	}
	o.Main = s.body(0, 0, u.Main)
	for i, to := range s.to {
		if to != "" {
			s.code[i].A = s.labels[to]
		}
	}
	o.Code, o.Fixes = s.code, s.fixes
	return o
}
