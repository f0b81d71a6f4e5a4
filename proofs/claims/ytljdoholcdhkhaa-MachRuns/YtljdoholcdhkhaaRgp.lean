/-
  The reference's machine as plain mathematics, with its flag 'over'; what it tells is what the machine tells.
-/
import Derived.Test.YtljdoholcdhkhaaPurc
import Derived.Test.YtljdoholcdhkhaaPurd
namespace Go.Proofs.Ytljdoholcdhkhaa
set_option linter.unusedSimpArgs false
set_option linter.unusedVariables false
namespace Rg
open Go.RowKit

structure G where
  s : Mc.St
  o : Bool
def stop (e : Int) (g : G) : G := if g.o then g else ⟨{ g.s with en := e }, true⟩
def pop (g : G) : Int × G := if 0 < g.s.stack.length then (g.s.stack.getD (g.s.stack.length - 1) 0, ⟨{ g.s with stack := g.s.stack.take (g.s.stack.length - 1) }, g.o⟩) else (0, stop 6 g)
def full (g : G) : G := if g.s.stack.length < 2048 then g else stop 6 g
def put (n : Int) (g : G) : G := if g.o then g else ⟨{ g.s with stack := g.s.stack ++ [n] }, false⟩
def push (n : Int) (g : G) : G := put n (full g)
def late (mt : Int) (g : G) : G := if mt ≤ g.s.ticks then stop 3 g else g
def ticked (g : G) : G := if g.o then g else ⟨{ g.s with ticks := g.s.ticks + 1 }, false⟩
def tick (mt : Int) (g : G) : G := ticked (late mt g)
def loc (a : Int) (g : G) : G := if Mc.inB g.s.lo a then g else stop 6 g
def dat (a : Int) (g : G) : G := if Mc.inB g.s.data a then g else stop 6 g
def at_ (n : Int) (g : G) : G := ⟨{ g.s with pc := n }, g.o⟩
def putLo (a n : Int) (g : G) : G := if g.o then g else ⟨{ g.s with lo := g.s.lo.set a.toNat n }, false⟩
def putDa (a n : Int) (g : G) : G := if g.o then g else ⟨{ g.s with data := g.s.data.set a.toNat n }, false⟩
def pushLo (a : Int) (g : G) : G := if g.o then g else push (g.s.lo.getD a.toNat 0) g
def pushDa (a : Int) (g : G) : G := if g.o then g else push (g.s.data.getD a.toNat 0) g
def enter (a b : Int) (g : G) : G :=
  if a < 0 ∨ b < 0 ∨ 2048 < a ∨ 2048 < b ∨ 2048 < a + b ∨ (g.s.stack.length : Int) < a then stop 6 g
  else ⟨{ g.s with lo := g.s.stack.drop (g.s.stack.length - a.toNat) ++ List.replicate b.toNat 0, stack := g.s.stack.take (g.s.stack.length - a.toNat) }, g.o⟩
def outside (n b : Int) (g : G) : G := if n < 0 ∨ b ≤ n then stop 2 g else g
def isMath (a : Int) (g : G) : G := if Mc.isOp a then g else stop 6 g
def mathed (op a b : Int) (g : G) : G := match Mc.reck op a b with
  | some n => push n g
  | none => push 0 (stop 1 g)
def deep (g : G) : G := if 24 < g.s.gs.length + 1 then stop 4 g else g
def called (nx : Int) (g : G) : G := ⟨{ g.s with gs := g.s.gs ++ [(g.s.lo, g.s.bk)], lo := [], bk := nx }, g.o⟩
def fullOut (g : G) : G := if g.o = false ∧ 200 ≤ g.s.out.length then stop 5 g else g
def told (n : Int) (g : G) : G := if g.o then g else ⟨{ g.s with out := g.s.out ++ [n] }, false⟩
def tailIn (g : G) : G := ⟨{ g.s with inp := g.s.inp.tail }, g.o⟩

def doI (mt : Int) (i : Mc.Ins) (g : G) : G :=
  let nx := g.s.pc + 1
  if i.op = 1 then at_ nx (push i.a g)
  else if i.op = 2 then at_ nx (pushLo i.a (loc i.a g))
  else if i.op = 3 then at_ nx (putLo i.a (pop g).1 (loc i.a (pop g).2))
  else if i.op = 4 then at_ nx (pushDa i.a (dat i.a g))
  else if i.op = 5 then at_ nx (putDa i.a (pop g).1 (dat i.a (pop g).2))
  else if i.op = 6 then at_ nx (push (wrap64 (i.a + (pop g).1)) (outside (pop g).1 i.b (pop g).2))
  else if i.op = 7 then at_ nx (pushDa (pop g).1 (dat (pop g).1 (pop g).2))
  else if i.op = 8 then at_ nx (putDa (pop (pop g).2).1 (pop g).1 (dat (pop (pop g).2).1 (pop (pop g).2).2))
  else if i.op = 9 then at_ nx (push (Mc.truth ((pop g).1 == 0)) (pop g).2)
  else if i.op = 22 then at_ nx (push (Mc.truth ((pop g).1 != 0)) (pop g).2)
  else if i.op = 10 then (if (pop (pop (isMath i.a g)).2).2.o then (pop (pop (isMath i.a g)).2).2 else at_ nx (mathed i.a (pop (pop (isMath i.a g)).2).1 (pop (isMath i.a g)).1 (pop (pop (isMath i.a g)).2).2))
  else if i.op = 11 then at_ i.a g
  else if i.op = 12 then at_ (if (pop g).1 = 0 then i.a else nx) (pop g).2
  else if i.op = 13 then at_ i.a (called nx (deep (tick mt g)))
  else if i.op = 14 then at_ nx (enter i.a i.b g)
  else if i.op = 15 then (match g.s.gs.getLast? with
    | none => stop 6 g
    | some f => at_ g.s.bk ⟨{ g.s with gs := g.s.gs.dropLast, lo := f.1, bk := f.2 }, g.o⟩)
  else if i.op = 16 then at_ nx (tick mt g)
  else if i.op = 17 then at_ nx (pop g).2
  else if i.op = 18 then at_ nx (tailIn (push (g.s.inp.headD 0) g))
  else if i.op = 19 then at_ nx (told (pop g).1 (fullOut (pop g).2))
  else if i.op = 20 then at_ nx (stop 0 g)
  else at_ nx g

def Tells (r : Mc.Res Unit) (g : G) : Prop := match r with
  | .ok _ m => g = ⟨m, false⟩
  | .stop m => g.o = true ∧ g.s.en = m.en ∧ g.s.out = m.out ∧ g.s.data = m.data ∧ g.s.ticks = m.ticks ∧ g.s.steps = m.steps

theorem pop_both (stack : List Int) : (∃ v t, (∀ s : Mc.St, s.stack = stack → Mc.pop s = .ok v { s with stack := t }) ∧ ∀ (s : Mc.St) (o : Bool), s.stack = stack → pop ⟨s, o⟩ = (v, ⟨{ s with stack := t }, o⟩)) ∨
    (∀ s : Mc.St, s.stack = stack → Mc.pop s = Mc.halt 6 s) ∧ ∀ (s : Mc.St) (o : Bool), s.stack = stack → pop ⟨s, o⟩ = (0, stop 6 ⟨s, o⟩) := by
  by_cases h : 0 < stack.length
  · refine Or.inl ⟨stack.getD (stack.length - 1) 0, stack.take (stack.length - 1), ?_, ?_⟩
    · rintro s rfl; exact if_pos h
    · rintro s o rfl; exact if_pos h
  · refine Or.inr ⟨?_, ?_⟩
    · rintro s rfl; exact if_neg h
    · rintro s o rfl; exact if_neg h

theorem do_tells1 (mt : Int) (i : Mc.Ins) (s : Mc.St) (ht : s.ticks ≤ mt) (ho : s.out.length ≤ 200) (hop : i.op = 1) : Tells (Mc.doI mt i { s with pc := s.pc + 1 }) (doI mt i ⟨s, false⟩) := by
  obtain ⟨pc, stack, gs, lo, bk, data, inp, out, ticks, steps, en⟩ := s
  obtain ⟨op, a, b⟩ := i
  simp only at ht ho hop
  subst hop
  by_cases c0 : stack.length < 2048 <;> simp [Mc.doI, doI, Mc.Res.bind, Mc.push, push, full, put, stop, at_, Mc.halt, Tells, Mc.getL, loc, dat, putLo, putDa, pushLo, pushDa, Mc.putLo, Mc.putDa, Mc.index, outside, isMath, mathed, Mc.math, Mc.tick, tick, late, ticked, Mc.call, called, deep, Mc.next, tailIn, Mc.tell, told, fullOut, c0]

theorem do_tells2 (mt : Int) (i : Mc.Ins) (s : Mc.St) (ht : s.ticks ≤ mt) (ho : s.out.length ≤ 200) (hop : i.op = 2) : Tells (Mc.doI mt i { s with pc := s.pc + 1 }) (doI mt i ⟨s, false⟩) := by
  obtain ⟨pc, stack, gs, lo, bk, data, inp, out, ticks, steps, en⟩ := s
  obtain ⟨op, a, b⟩ := i
  simp only at ht ho hop
  subst hop
  by_cases c0 : Mc.inB lo a = true <;> by_cases c1 : stack.length < 2048 <;> simp [Mc.doI, doI, Mc.Res.bind, Mc.push, push, full, put, stop, at_, Mc.halt, Tells, Mc.getL, loc, dat, putLo, putDa, pushLo, pushDa, Mc.putLo, Mc.putDa, Mc.index, outside, isMath, mathed, Mc.math, Mc.tick, tick, late, ticked, Mc.call, called, deep, Mc.next, tailIn, Mc.tell, told, fullOut, c0, c1]

theorem do_tells3 (mt : Int) (i : Mc.Ins) (s : Mc.St) (ht : s.ticks ≤ mt) (ho : s.out.length ≤ 200) (hop : i.op = 3) : Tells (Mc.doI mt i { s with pc := s.pc + 1 }) (doI mt i ⟨s, false⟩) := by
  obtain ⟨pc, stack, gs, lo, bk, data, inp, out, ticks, steps, en⟩ := s
  obtain ⟨op, a, b⟩ := i
  simp only at ht ho hop
  subst hop
  rcases pop_both stack with ⟨v, t, p1, p2⟩ | ⟨p1, p2⟩
  · by_cases c0 : Mc.inB lo a = true <;> simp [Mc.doI, doI, Mc.Res.bind, Mc.push, push, full, put, stop, at_, Mc.halt, Tells, Mc.getL, loc, dat, putLo, putDa, pushLo, pushDa, Mc.putLo, Mc.putDa, Mc.index, outside, isMath, mathed, Mc.math, Mc.tick, tick, late, ticked, Mc.call, called, deep, Mc.next, tailIn, Mc.tell, told, fullOut, p1, p2, c0]
  · simp [Mc.doI, doI, Mc.Res.bind, Mc.push, push, full, put, stop, at_, Mc.halt, Tells, Mc.getL, loc, dat, putLo, putDa, pushLo, pushDa, Mc.putLo, Mc.putDa, Mc.index, outside, isMath, mathed, Mc.math, Mc.tick, tick, late, ticked, Mc.call, called, deep, Mc.next, tailIn, Mc.tell, told, fullOut, p1, p2]

theorem do_tells4 (mt : Int) (i : Mc.Ins) (s : Mc.St) (ht : s.ticks ≤ mt) (ho : s.out.length ≤ 200) (hop : i.op = 4) : Tells (Mc.doI mt i { s with pc := s.pc + 1 }) (doI mt i ⟨s, false⟩) := by
  obtain ⟨pc, stack, gs, lo, bk, data, inp, out, ticks, steps, en⟩ := s
  obtain ⟨op, a, b⟩ := i
  simp only at ht ho hop
  subst hop
  by_cases c0 : Mc.inB data a = true <;> by_cases c1 : stack.length < 2048 <;> simp [Mc.doI, doI, Mc.Res.bind, Mc.push, push, full, put, stop, at_, Mc.halt, Tells, Mc.getL, loc, dat, putLo, putDa, pushLo, pushDa, Mc.putLo, Mc.putDa, Mc.index, outside, isMath, mathed, Mc.math, Mc.tick, tick, late, ticked, Mc.call, called, deep, Mc.next, tailIn, Mc.tell, told, fullOut, c0, c1]

theorem do_tells5 (mt : Int) (i : Mc.Ins) (s : Mc.St) (ht : s.ticks ≤ mt) (ho : s.out.length ≤ 200) (hop : i.op = 5) : Tells (Mc.doI mt i { s with pc := s.pc + 1 }) (doI mt i ⟨s, false⟩) := by
  obtain ⟨pc, stack, gs, lo, bk, data, inp, out, ticks, steps, en⟩ := s
  obtain ⟨op, a, b⟩ := i
  simp only at ht ho hop
  subst hop
  rcases pop_both stack with ⟨v, t, p1, p2⟩ | ⟨p1, p2⟩
  · by_cases c0 : Mc.inB data a = true <;> simp [Mc.doI, doI, Mc.Res.bind, Mc.push, push, full, put, stop, at_, Mc.halt, Tells, Mc.getL, loc, dat, putLo, putDa, pushLo, pushDa, Mc.putLo, Mc.putDa, Mc.index, outside, isMath, mathed, Mc.math, Mc.tick, tick, late, ticked, Mc.call, called, deep, Mc.next, tailIn, Mc.tell, told, fullOut, p1, p2, c0]
  · simp [Mc.doI, doI, Mc.Res.bind, Mc.push, push, full, put, stop, at_, Mc.halt, Tells, Mc.getL, loc, dat, putLo, putDa, pushLo, pushDa, Mc.putLo, Mc.putDa, Mc.index, outside, isMath, mathed, Mc.math, Mc.tick, tick, late, ticked, Mc.call, called, deep, Mc.next, tailIn, Mc.tell, told, fullOut, p1, p2]

theorem do_tells6 (mt : Int) (i : Mc.Ins) (s : Mc.St) (ht : s.ticks ≤ mt) (ho : s.out.length ≤ 200) (hop : i.op = 6) : Tells (Mc.doI mt i { s with pc := s.pc + 1 }) (doI mt i ⟨s, false⟩) := by
  obtain ⟨pc, stack, gs, lo, bk, data, inp, out, ticks, steps, en⟩ := s
  obtain ⟨op, a, b⟩ := i
  simp only at ht ho hop
  subst hop
  rcases pop_both stack with ⟨v, t, p1, p2⟩ | ⟨p1, p2⟩
  · by_cases c0 : v < 0 ∨ b ≤ v <;> by_cases c1 : t.length < 2048 <;> simp [Mc.doI, doI, Mc.Res.bind, Mc.push, push, full, put, stop, at_, Mc.halt, Tells, Mc.getL, loc, dat, putLo, putDa, pushLo, pushDa, Mc.putLo, Mc.putDa, Mc.index, outside, isMath, mathed, Mc.math, Mc.tick, tick, late, ticked, Mc.call, called, deep, Mc.next, tailIn, Mc.tell, told, fullOut, p1, p2, c0, c1]
  · simp [Mc.doI, doI, Mc.Res.bind, Mc.push, push, full, put, stop, at_, Mc.halt, Tells, Mc.getL, loc, dat, putLo, putDa, pushLo, pushDa, Mc.putLo, Mc.putDa, Mc.index, outside, isMath, mathed, Mc.math, Mc.tick, tick, late, ticked, Mc.call, called, deep, Mc.next, tailIn, Mc.tell, told, fullOut, p1, p2]

theorem do_tells7 (mt : Int) (i : Mc.Ins) (s : Mc.St) (ht : s.ticks ≤ mt) (ho : s.out.length ≤ 200) (hop : i.op = 7) : Tells (Mc.doI mt i { s with pc := s.pc + 1 }) (doI mt i ⟨s, false⟩) := by
  obtain ⟨pc, stack, gs, lo, bk, data, inp, out, ticks, steps, en⟩ := s
  obtain ⟨op, a, b⟩ := i
  simp only at ht ho hop
  subst hop
  rcases pop_both stack with ⟨v, t, p1, p2⟩ | ⟨p1, p2⟩
  · by_cases c0 : Mc.inB data v = true <;> by_cases c1 : t.length < 2048 <;> simp [Mc.doI, doI, Mc.Res.bind, Mc.push, push, full, put, stop, at_, Mc.halt, Tells, Mc.getL, loc, dat, putLo, putDa, pushLo, pushDa, Mc.putLo, Mc.putDa, Mc.index, outside, isMath, mathed, Mc.math, Mc.tick, tick, late, ticked, Mc.call, called, deep, Mc.next, tailIn, Mc.tell, told, fullOut, p1, p2, c0, c1]
  · simp [Mc.doI, doI, Mc.Res.bind, Mc.push, push, full, put, stop, at_, Mc.halt, Tells, Mc.getL, loc, dat, putLo, putDa, pushLo, pushDa, Mc.putLo, Mc.putDa, Mc.index, outside, isMath, mathed, Mc.math, Mc.tick, tick, late, ticked, Mc.call, called, deep, Mc.next, tailIn, Mc.tell, told, fullOut, p1, p2]

theorem do_tells8 (mt : Int) (i : Mc.Ins) (s : Mc.St) (ht : s.ticks ≤ mt) (ho : s.out.length ≤ 200) (hop : i.op = 8) : Tells (Mc.doI mt i { s with pc := s.pc + 1 }) (doI mt i ⟨s, false⟩) := by
  obtain ⟨pc, stack, gs, lo, bk, data, inp, out, ticks, steps, en⟩ := s
  obtain ⟨op, a, b⟩ := i
  simp only at ht ho hop
  subst hop
  rcases pop_both stack with ⟨v, t, p1, p2⟩ | ⟨p1, p2⟩
  · rcases pop_both t with ⟨v2, t2, q1, q2⟩ | ⟨q1, q2⟩
    · by_cases c0 : Mc.inB data v2 = true <;> simp [Mc.doI, doI, Mc.Res.bind, Mc.push, push, full, put, stop, at_, Mc.halt, Tells, Mc.getL, loc, dat, putLo, putDa, pushLo, pushDa, Mc.putLo, Mc.putDa, Mc.index, outside, isMath, mathed, Mc.math, Mc.tick, tick, late, ticked, Mc.call, called, deep, Mc.next, tailIn, Mc.tell, told, fullOut, p1, p2, q1, q2, c0]
    · simp [Mc.doI, doI, Mc.Res.bind, Mc.push, push, full, put, stop, at_, Mc.halt, Tells, Mc.getL, loc, dat, putLo, putDa, pushLo, pushDa, Mc.putLo, Mc.putDa, Mc.index, outside, isMath, mathed, Mc.math, Mc.tick, tick, late, ticked, Mc.call, called, deep, Mc.next, tailIn, Mc.tell, told, fullOut, p1, p2, q1, q2]
  · simp [Mc.doI, doI, Mc.Res.bind, Mc.push, push, full, put, stop, at_, Mc.halt, Tells, Mc.getL, loc, dat, putLo, putDa, pushLo, pushDa, Mc.putLo, Mc.putDa, Mc.index, outside, isMath, mathed, Mc.math, Mc.tick, tick, late, ticked, Mc.call, called, deep, Mc.next, tailIn, Mc.tell, told, fullOut, p1, p2]

theorem do_tells9 (mt : Int) (i : Mc.Ins) (s : Mc.St) (ht : s.ticks ≤ mt) (ho : s.out.length ≤ 200) (hop : i.op = 9) : Tells (Mc.doI mt i { s with pc := s.pc + 1 }) (doI mt i ⟨s, false⟩) := by
  obtain ⟨pc, stack, gs, lo, bk, data, inp, out, ticks, steps, en⟩ := s
  obtain ⟨op, a, b⟩ := i
  simp only at ht ho hop
  subst hop
  rcases pop_both stack with ⟨v, t, p1, p2⟩ | ⟨p1, p2⟩
  · by_cases c0 : t.length < 2048 <;> simp [Mc.doI, doI, Mc.Res.bind, Mc.push, push, full, put, stop, at_, Mc.halt, Tells, Mc.getL, loc, dat, putLo, putDa, pushLo, pushDa, Mc.putLo, Mc.putDa, Mc.index, outside, isMath, mathed, Mc.math, Mc.tick, tick, late, ticked, Mc.call, called, deep, Mc.next, tailIn, Mc.tell, told, fullOut, p1, p2, c0]
  · simp [Mc.doI, doI, Mc.Res.bind, Mc.push, push, full, put, stop, at_, Mc.halt, Tells, Mc.getL, loc, dat, putLo, putDa, pushLo, pushDa, Mc.putLo, Mc.putDa, Mc.index, outside, isMath, mathed, Mc.math, Mc.tick, tick, late, ticked, Mc.call, called, deep, Mc.next, tailIn, Mc.tell, told, fullOut, p1, p2]

theorem do_tells22 (mt : Int) (i : Mc.Ins) (s : Mc.St) (ht : s.ticks ≤ mt) (ho : s.out.length ≤ 200) (hop : i.op = 22) : Tells (Mc.doI mt i { s with pc := s.pc + 1 }) (doI mt i ⟨s, false⟩) := by
  obtain ⟨pc, stack, gs, lo, bk, data, inp, out, ticks, steps, en⟩ := s
  obtain ⟨op, a, b⟩ := i
  simp only at ht ho hop
  subst hop
  rcases pop_both stack with ⟨v, t, p1, p2⟩ | ⟨p1, p2⟩
  · by_cases c0 : t.length < 2048 <;> simp [Mc.doI, doI, Mc.Res.bind, Mc.push, push, full, put, stop, at_, Mc.halt, Tells, Mc.getL, loc, dat, putLo, putDa, pushLo, pushDa, Mc.putLo, Mc.putDa, Mc.index, outside, isMath, mathed, Mc.math, Mc.tick, tick, late, ticked, Mc.call, called, deep, Mc.next, tailIn, Mc.tell, told, fullOut, p1, p2, c0]
  · simp [Mc.doI, doI, Mc.Res.bind, Mc.push, push, full, put, stop, at_, Mc.halt, Tells, Mc.getL, loc, dat, putLo, putDa, pushLo, pushDa, Mc.putLo, Mc.putDa, Mc.index, outside, isMath, mathed, Mc.math, Mc.tick, tick, late, ticked, Mc.call, called, deep, Mc.next, tailIn, Mc.tell, told, fullOut, p1, p2]

theorem do_tells11 (mt : Int) (i : Mc.Ins) (s : Mc.St) (ht : s.ticks ≤ mt) (ho : s.out.length ≤ 200) (hop : i.op = 11) : Tells (Mc.doI mt i { s with pc := s.pc + 1 }) (doI mt i ⟨s, false⟩) := by
  obtain ⟨pc, stack, gs, lo, bk, data, inp, out, ticks, steps, en⟩ := s
  obtain ⟨op, a, b⟩ := i
  simp only at ht ho hop
  subst hop
  simp [Mc.doI, doI, Mc.Res.bind, Mc.push, push, full, put, stop, at_, Mc.halt, Tells, Mc.getL, loc, dat, putLo, putDa, pushLo, pushDa, Mc.putLo, Mc.putDa, Mc.index, outside, isMath, mathed, Mc.math, Mc.tick, tick, late, ticked, Mc.call, called, deep, Mc.next, tailIn, Mc.tell, told, fullOut]

theorem do_tells12 (mt : Int) (i : Mc.Ins) (s : Mc.St) (ht : s.ticks ≤ mt) (ho : s.out.length ≤ 200) (hop : i.op = 12) : Tells (Mc.doI mt i { s with pc := s.pc + 1 }) (doI mt i ⟨s, false⟩) := by
  obtain ⟨pc, stack, gs, lo, bk, data, inp, out, ticks, steps, en⟩ := s
  obtain ⟨op, a, b⟩ := i
  simp only at ht ho hop
  subst hop
  rcases pop_both stack with ⟨v, t, p1, p2⟩ | ⟨p1, p2⟩
  · by_cases c0 : v = 0 <;> simp [Mc.doI, doI, Mc.Res.bind, Mc.push, push, full, put, stop, at_, Mc.halt, Tells, Mc.getL, loc, dat, putLo, putDa, pushLo, pushDa, Mc.putLo, Mc.putDa, Mc.index, outside, isMath, mathed, Mc.math, Mc.tick, tick, late, ticked, Mc.call, called, deep, Mc.next, tailIn, Mc.tell, told, fullOut, p1, p2, c0]
  · simp [Mc.doI, doI, Mc.Res.bind, Mc.push, push, full, put, stop, at_, Mc.halt, Tells, Mc.getL, loc, dat, putLo, putDa, pushLo, pushDa, Mc.putLo, Mc.putDa, Mc.index, outside, isMath, mathed, Mc.math, Mc.tick, tick, late, ticked, Mc.call, called, deep, Mc.next, tailIn, Mc.tell, told, fullOut, p1, p2]

theorem do_tells16 (mt : Int) (i : Mc.Ins) (s : Mc.St) (ht : s.ticks ≤ mt) (ho : s.out.length ≤ 200) (hop : i.op = 16) : Tells (Mc.doI mt i { s with pc := s.pc + 1 }) (doI mt i ⟨s, false⟩) := by
  obtain ⟨pc, stack, gs, lo, bk, data, inp, out, ticks, steps, en⟩ := s
  obtain ⟨op, a, b⟩ := i
  simp only at ht ho hop
  subst hop
  by_cases c0 : ticks = mt
  · subst c0; simp [Mc.doI, doI, Mc.Res.bind, Mc.push, push, full, put, stop, at_, Mc.halt, Tells, Mc.getL, loc, dat, putLo, putDa, pushLo, pushDa, Mc.putLo, Mc.putDa, Mc.index, outside, isMath, mathed, Mc.math, Mc.tick, tick, late, ticked, Mc.call, called, deep, Mc.next, tailIn, Mc.tell, told, fullOut]
  · have c1 : ¬ mt ≤ ticks := by omega
    simp [Mc.doI, doI, Mc.Res.bind, Mc.push, push, full, put, stop, at_, Mc.halt, Tells, Mc.getL, loc, dat, putLo, putDa, pushLo, pushDa, Mc.putLo, Mc.putDa, Mc.index, outside, isMath, mathed, Mc.math, Mc.tick, tick, late, ticked, Mc.call, called, deep, Mc.next, tailIn, Mc.tell, told, fullOut, c0, c1]

theorem do_tells17 (mt : Int) (i : Mc.Ins) (s : Mc.St) (ht : s.ticks ≤ mt) (ho : s.out.length ≤ 200) (hop : i.op = 17) : Tells (Mc.doI mt i { s with pc := s.pc + 1 }) (doI mt i ⟨s, false⟩) := by
  obtain ⟨pc, stack, gs, lo, bk, data, inp, out, ticks, steps, en⟩ := s
  obtain ⟨op, a, b⟩ := i
  simp only at ht ho hop
  subst hop
  rcases pop_both stack with ⟨v, t, p1, p2⟩ | ⟨p1, p2⟩
  · simp [Mc.doI, doI, Mc.Res.bind, Mc.push, push, full, put, stop, at_, Mc.halt, Tells, Mc.getL, loc, dat, putLo, putDa, pushLo, pushDa, Mc.putLo, Mc.putDa, Mc.index, outside, isMath, mathed, Mc.math, Mc.tick, tick, late, ticked, Mc.call, called, deep, Mc.next, tailIn, Mc.tell, told, fullOut, p1, p2]
  · simp [Mc.doI, doI, Mc.Res.bind, Mc.push, push, full, put, stop, at_, Mc.halt, Tells, Mc.getL, loc, dat, putLo, putDa, pushLo, pushDa, Mc.putLo, Mc.putDa, Mc.index, outside, isMath, mathed, Mc.math, Mc.tick, tick, late, ticked, Mc.call, called, deep, Mc.next, tailIn, Mc.tell, told, fullOut, p1, p2]

theorem do_tells18 (mt : Int) (i : Mc.Ins) (s : Mc.St) (ht : s.ticks ≤ mt) (ho : s.out.length ≤ 200) (hop : i.op = 18) : Tells (Mc.doI mt i { s with pc := s.pc + 1 }) (doI mt i ⟨s, false⟩) := by
  obtain ⟨pc, stack, gs, lo, bk, data, inp, out, ticks, steps, en⟩ := s
  obtain ⟨op, a, b⟩ := i
  simp only at ht ho hop
  subst hop
  by_cases c0 : stack.length < 2048 <;> simp [Mc.doI, doI, Mc.Res.bind, Mc.push, push, full, put, stop, at_, Mc.halt, Tells, Mc.getL, loc, dat, putLo, putDa, pushLo, pushDa, Mc.putLo, Mc.putDa, Mc.index, outside, isMath, mathed, Mc.math, Mc.tick, tick, late, ticked, Mc.call, called, deep, Mc.next, tailIn, Mc.tell, told, fullOut, c0]

theorem do_tells19 (mt : Int) (i : Mc.Ins) (s : Mc.St) (ht : s.ticks ≤ mt) (ho : s.out.length ≤ 200) (hop : i.op = 19) : Tells (Mc.doI mt i { s with pc := s.pc + 1 }) (doI mt i ⟨s, false⟩) := by
  obtain ⟨pc, stack, gs, lo, bk, data, inp, out, ticks, steps, en⟩ := s
  obtain ⟨op, a, b⟩ := i
  simp only at ht ho hop
  subst hop
  rcases pop_both stack with ⟨v, t, p1, p2⟩ | ⟨p1, p2⟩
  · by_cases c0 : out.length = 200
    · have c1 : 200 ≤ out.length := by omega
      simp [Mc.doI, doI, Mc.Res.bind, Mc.push, push, full, put, stop, at_, Mc.halt, Tells, Mc.getL, loc, dat, putLo, putDa, pushLo, pushDa, Mc.putLo, Mc.putDa, Mc.index, outside, isMath, mathed, Mc.math, Mc.tick, tick, late, ticked, Mc.call, called, deep, Mc.next, tailIn, Mc.tell, told, fullOut, p1, p2, c0]
    · have c1 : ¬ 200 ≤ out.length := by omega
      simp [Mc.doI, doI, Mc.Res.bind, Mc.push, push, full, put, stop, at_, Mc.halt, Tells, Mc.getL, loc, dat, putLo, putDa, pushLo, pushDa, Mc.putLo, Mc.putDa, Mc.index, outside, isMath, mathed, Mc.math, Mc.tick, tick, late, ticked, Mc.call, called, deep, Mc.next, tailIn, Mc.tell, told, fullOut, p1, p2, c0, c1]
  · simp [Mc.doI, doI, Mc.Res.bind, Mc.push, push, full, put, stop, at_, Mc.halt, Tells, Mc.getL, loc, dat, putLo, putDa, pushLo, pushDa, Mc.putLo, Mc.putDa, Mc.index, outside, isMath, mathed, Mc.math, Mc.tick, tick, late, ticked, Mc.call, called, deep, Mc.next, tailIn, Mc.tell, told, fullOut, p1, p2]

theorem do_tells20 (mt : Int) (i : Mc.Ins) (s : Mc.St) (ht : s.ticks ≤ mt) (ho : s.out.length ≤ 200) (hop : i.op = 20) : Tells (Mc.doI mt i { s with pc := s.pc + 1 }) (doI mt i ⟨s, false⟩) := by
  obtain ⟨pc, stack, gs, lo, bk, data, inp, out, ticks, steps, en⟩ := s
  obtain ⟨op, a, b⟩ := i
  simp only at ht ho hop
  subst hop
  simp [Mc.doI, doI, Mc.Res.bind, Mc.push, push, full, put, stop, at_, Mc.halt, Tells, Mc.getL, loc, dat, putLo, putDa, pushLo, pushDa, Mc.putLo, Mc.putDa, Mc.index, outside, isMath, mathed, Mc.math, Mc.tick, tick, late, ticked, Mc.call, called, deep, Mc.next, tailIn, Mc.tell, told, fullOut]

theorem do_tells10 (mt : Int) (i : Mc.Ins) (s : Mc.St) (ht : s.ticks ≤ mt) (ho : s.out.length ≤ 200) (hop : i.op = 10) : Tells (Mc.doI mt i { s with pc := s.pc + 1 }) (doI mt i ⟨s, false⟩) := by
  obtain ⟨pc, stack, gs, lo, bk, data, inp, out, ticks, steps, en⟩ := s
  obtain ⟨op, a, b⟩ := i
  simp only at ht ho hop
  subst hop
  by_cases c : Mc.isOp a = true
  · rcases pop_both stack with ⟨v, t, p1, p2⟩ | ⟨p1, p2⟩
    · rcases pop_both t with ⟨v2, t2, q1, q2⟩ | ⟨q1, q2⟩
      · by_cases c2 : t2.length < 2048 <;> cases hr : Mc.reck a v2 v <;> simp [Mc.doI, doI, Mc.Res.bind, Mc.push, push, full, put, stop, at_, Mc.halt, Tells, Mc.getL, loc, dat, putLo, putDa, pushLo, pushDa, Mc.putLo, Mc.putDa, Mc.index, outside, isMath, mathed, Mc.math, Mc.tick, tick, late, ticked, Mc.call, called, deep, Mc.next, tailIn, Mc.tell, told, fullOut, p1, p2, q1, q2, c, c2, hr]
      · simp [Mc.doI, doI, Mc.Res.bind, Mc.push, push, full, put, stop, at_, Mc.halt, Tells, Mc.getL, loc, dat, putLo, putDa, pushLo, pushDa, Mc.putLo, Mc.putDa, Mc.index, outside, isMath, mathed, Mc.math, Mc.tick, tick, late, ticked, Mc.call, called, deep, Mc.next, tailIn, Mc.tell, told, fullOut, p1, p2, q1, q2, c]
    · simp [Mc.doI, doI, Mc.Res.bind, Mc.push, push, full, put, stop, at_, Mc.halt, Tells, Mc.getL, loc, dat, putLo, putDa, pushLo, pushDa, Mc.putLo, Mc.putDa, Mc.index, outside, isMath, mathed, Mc.math, Mc.tick, tick, late, ticked, Mc.call, called, deep, Mc.next, tailIn, Mc.tell, told, fullOut, p1, p2, c]
  · rcases pop_both stack with ⟨v, t, p1, p2⟩ | ⟨p1, p2⟩
    · rcases pop_both t with ⟨v2, t2, q1, q2⟩ | ⟨q1, q2⟩
      · simp [Mc.doI, doI, Mc.Res.bind, Mc.push, push, full, put, stop, at_, Mc.halt, Tells, Mc.getL, loc, dat, putLo, putDa, pushLo, pushDa, Mc.putLo, Mc.putDa, Mc.index, outside, isMath, mathed, Mc.math, Mc.tick, tick, late, ticked, Mc.call, called, deep, Mc.next, tailIn, Mc.tell, told, fullOut, p1, p2, q1, q2, c]
      · simp [Mc.doI, doI, Mc.Res.bind, Mc.push, push, full, put, stop, at_, Mc.halt, Tells, Mc.getL, loc, dat, putLo, putDa, pushLo, pushDa, Mc.putLo, Mc.putDa, Mc.index, outside, isMath, mathed, Mc.math, Mc.tick, tick, late, ticked, Mc.call, called, deep, Mc.next, tailIn, Mc.tell, told, fullOut, p1, p2, q1, q2, c]
    · simp [Mc.doI, doI, Mc.Res.bind, Mc.push, push, full, put, stop, at_, Mc.halt, Tells, Mc.getL, loc, dat, putLo, putDa, pushLo, pushDa, Mc.putLo, Mc.putDa, Mc.index, outside, isMath, mathed, Mc.math, Mc.tick, tick, late, ticked, Mc.call, called, deep, Mc.next, tailIn, Mc.tell, told, fullOut, p1, p2, c]

theorem do_tells13 (mt : Int) (i : Mc.Ins) (s : Mc.St) (ht : s.ticks ≤ mt) (ho : s.out.length ≤ 200) (hop : i.op = 13) : Tells (Mc.doI mt i { s with pc := s.pc + 1 }) (doI mt i ⟨s, false⟩) := by
  obtain ⟨pc, stack, gs, lo, bk, data, inp, out, ticks, steps, en⟩ := s
  obtain ⟨op, a, b⟩ := i
  simp only at ht ho hop
  subst hop
  by_cases c0 : ticks = mt
  · subst c0; by_cases c2 : 24 < gs.length + 1 <;> simp [Mc.doI, doI, Mc.Res.bind, Mc.push, push, full, put, stop, at_, Mc.halt, Tells, Mc.getL, loc, dat, putLo, putDa, pushLo, pushDa, Mc.putLo, Mc.putDa, Mc.index, outside, isMath, mathed, Mc.math, Mc.tick, tick, late, ticked, Mc.call, called, deep, Mc.next, tailIn, Mc.tell, told, fullOut, c2]
  · have c1 : ¬ mt ≤ ticks := by omega
    by_cases c2 : 24 < gs.length + 1 <;> simp [Mc.doI, doI, Mc.Res.bind, Mc.push, push, full, put, stop, at_, Mc.halt, Tells, Mc.getL, loc, dat, putLo, putDa, pushLo, pushDa, Mc.putLo, Mc.putDa, Mc.index, outside, isMath, mathed, Mc.math, Mc.tick, tick, late, ticked, Mc.call, called, deep, Mc.next, tailIn, Mc.tell, told, fullOut, c0, c1, c2]

theorem do_tells14 (mt : Int) (i : Mc.Ins) (s : Mc.St) (ht : s.ticks ≤ mt) (ho : s.out.length ≤ 200) (hop : i.op = 14) : Tells (Mc.doI mt i { s with pc := s.pc + 1 }) (doI mt i ⟨s, false⟩) := by
  obtain ⟨pc, stack, gs, lo, bk, data, inp, out, ticks, steps, en⟩ := s
  obtain ⟨op, a, b⟩ := i
  simp only at ht ho hop
  subst hop
  by_cases c : a < 0 ∨ b < 0 ∨ 2048 < a ∨ 2048 < b ∨ 2048 < a + b ∨ (stack.length : Int) < a
  · have hm : Mc.enter a b ⟨pc + 1, stack, gs, lo, bk, data, inp, out, ticks, steps, en⟩ = Mc.halt 6 ⟨pc + 1, stack, gs, lo, bk, data, inp, out, ticks, steps, en⟩ := by
      unfold Mc.enter
      by_cases h1 : 0 ≤ a ∧ 0 ≤ b ∧ b ≤ 2048 - a
      · rw [if_pos h1, if_neg (by show ¬ a ≤ (stack.length : Int); omega)]
      · rw [if_neg h1]
    have hg : enter a b ⟨⟨pc, stack, gs, lo, bk, data, inp, out, ticks, steps, en⟩, false⟩ = stop 6 ⟨⟨pc, stack, gs, lo, bk, data, inp, out, ticks, steps, en⟩, false⟩ := if_pos c
    simp [Mc.doI, doI, Mc.Res.bind, Mc.push, push, full, put, stop, at_, Mc.halt, Tells, Mc.getL, loc, dat, putLo, putDa, pushLo, pushDa, Mc.putLo, Mc.putDa, Mc.index, outside, isMath, mathed, Mc.math, Mc.tick, tick, late, ticked, Mc.call, called, deep, Mc.next, tailIn, Mc.tell, told, fullOut, hm, hg]
  · have hm : Mc.enter a b ⟨pc + 1, stack, gs, lo, bk, data, inp, out, ticks, steps, en⟩ = .ok () ⟨pc + 1, stack.take (stack.length - a.toNat), gs, stack.drop (stack.length - a.toNat) ++ List.replicate b.toNat 0, bk, data, inp, out, ticks, steps, en⟩ := by
      unfold Mc.enter
      rw [if_pos (by omega), if_pos (by show a ≤ (stack.length : Int); omega)]
    have hg : enter a b ⟨⟨pc, stack, gs, lo, bk, data, inp, out, ticks, steps, en⟩, false⟩ = ⟨⟨pc, stack.take (stack.length - a.toNat), gs, stack.drop (stack.length - a.toNat) ++ List.replicate b.toNat 0, bk, data, inp, out, ticks, steps, en⟩, false⟩ := if_neg c
    simp [Mc.doI, doI, Mc.Res.bind, Mc.push, push, full, put, stop, at_, Mc.halt, Tells, Mc.getL, loc, dat, putLo, putDa, pushLo, pushDa, Mc.putLo, Mc.putDa, Mc.index, outside, isMath, mathed, Mc.math, Mc.tick, tick, late, ticked, Mc.call, called, deep, Mc.next, tailIn, Mc.tell, told, fullOut, hm, hg]

theorem do_tells15 (mt : Int) (i : Mc.Ins) (s : Mc.St) (ht : s.ticks ≤ mt) (ho : s.out.length ≤ 200) (hop : i.op = 15) : Tells (Mc.doI mt i { s with pc := s.pc + 1 }) (doI mt i ⟨s, false⟩) := by
  obtain ⟨pc, stack, gs, lo, bk, data, inp, out, ticks, steps, en⟩ := s
  obtain ⟨op, a, b⟩ := i
  simp only at ht ho hop
  subst hop
  cases hg : gs.getLast? <;> simp [Mc.doI, doI, Mc.Res.bind, Mc.push, push, full, put, stop, at_, Mc.halt, Tells, Mc.getL, loc, dat, putLo, putDa, pushLo, pushDa, Mc.putLo, Mc.putDa, Mc.index, outside, isMath, mathed, Mc.math, Mc.tick, tick, late, ticked, Mc.call, called, deep, Mc.next, tailIn, Mc.tell, told, fullOut, Mc.ret, hg]

theorem do_tells (mt : Int) (i : Mc.Ins) (s : Mc.St) (ht : s.ticks ≤ mt) (ho : s.out.length ≤ 200) : Tells (Mc.doI mt i { s with pc := s.pc + 1 }) (doI mt i ⟨s, false⟩) := by
  by_cases h1 : i.op = 1
  · exact do_tells1 mt i s ht ho h1
  by_cases h2 : i.op = 2
  · exact do_tells2 mt i s ht ho h2
  by_cases h3 : i.op = 3
  · exact do_tells3 mt i s ht ho h3
  by_cases h4 : i.op = 4
  · exact do_tells4 mt i s ht ho h4
  by_cases h5 : i.op = 5
  · exact do_tells5 mt i s ht ho h5
  by_cases h6 : i.op = 6
  · exact do_tells6 mt i s ht ho h6
  by_cases h7 : i.op = 7
  · exact do_tells7 mt i s ht ho h7
  by_cases h8 : i.op = 8
  · exact do_tells8 mt i s ht ho h8
  by_cases h9 : i.op = 9
  · exact do_tells9 mt i s ht ho h9
  by_cases h22 : i.op = 22
  · exact do_tells22 mt i s ht ho h22
  by_cases h11 : i.op = 11
  · exact do_tells11 mt i s ht ho h11
  by_cases h12 : i.op = 12
  · exact do_tells12 mt i s ht ho h12
  by_cases h16 : i.op = 16
  · exact do_tells16 mt i s ht ho h16
  by_cases h17 : i.op = 17
  · exact do_tells17 mt i s ht ho h17
  by_cases h18 : i.op = 18
  · exact do_tells18 mt i s ht ho h18
  by_cases h19 : i.op = 19
  · exact do_tells19 mt i s ht ho h19
  by_cases h20 : i.op = 20
  · exact do_tells20 mt i s ht ho h20
  by_cases h10 : i.op = 10
  · exact do_tells10 mt i s ht ho h10
  by_cases h13 : i.op = 13
  · exact do_tells13 mt i s ht ho h13
  by_cases h14 : i.op = 14
  · exact do_tells14 mt i s ht ho h14
  by_cases h15 : i.op = 15
  · exact do_tells15 mt i s ht ho h15
  unfold Mc.doI doI
  simp only [if_neg h1, if_neg h2, if_neg h3, if_neg h4, if_neg h5, if_neg h6, if_neg h7, if_neg h8, if_neg h9, if_neg h22, if_neg h10, if_neg h11, if_neg h12, if_neg h13, if_neg h14, if_neg h15, if_neg h16, if_neg h17, if_neg h18, if_neg h19, if_neg h20]
  rfl

/- the run -/
def run (c : Mc.Cfg) : Nat → Mc.St → G
  | 0, s => ⟨s, false⟩
  | f + 1, s =>
    if s.steps = c.ms then stop 7 ⟨s, false⟩
    else if 0 ≤ s.pc ∧ s.pc < c.code.length then
      (if (doI c.mt (c.code.getD s.pc.toNat ⟨0, 0, 0⟩) ⟨{ s with steps := s.steps + 1 }, false⟩).o then doI c.mt (c.code.getD s.pc.toNat ⟨0, 0, 0⟩) ⟨{ s with steps := s.steps + 1 }, false⟩
       else run c f (doI c.mt (c.code.getD s.pc.toNat ⟨0, 0, 0⟩) ⟨{ s with steps := s.steps + 1 }, false⟩).s)
    else stop 6 ⟨{ s with steps := s.steps + 1 }, false⟩
theorem run_tells (c : Mc.Cfg) : ∀ (f : Nat) (s : Mc.St), s.ticks ≤ c.mt → s.out.length ≤ 200 →
    (run c f s).s.en = (Mc.run c f s).en ∧ (run c f s).s.out = (Mc.run c f s).out ∧ (run c f s).s.data = (Mc.run c f s).data ∧ (run c f s).s.ticks = (Mc.run c f s).ticks ∧ (run c f s).s.steps = (Mc.run c f s).steps
  | 0, s, _, _ => ⟨rfl, rfl, rfl, rfl, rfl⟩
  | f + 1, s, ht, ho => by
    rw [Mc.run_succ, Mc.step, run]
    by_cases h1 : s.steps = c.ms
    · rw [if_pos h1, if_pos h1]; exact ⟨rfl, rfl, rfl, rfl, rfl⟩
    rw [if_neg h1, if_neg h1]
    have k1 := Mc.core_ticks c.code c.mt s ht
    have k2 := Mc.core_room c.code c.mt s ho
    by_cases h2 : 0 ≤ s.pc ∧ s.pc < c.code.length
    · have hc : Mc.core c.code c.mt s = Mc.doI c.mt (c.code.getD s.pc.toNat ⟨0, 0, 0⟩) { s with steps := s.steps + 1, pc := s.pc + 1 } := if_pos h2
      rw [if_pos h2, hc]
      rw [hc] at k1 k2
      have hd : Tells (Mc.doI c.mt (c.code.getD s.pc.toNat ⟨0, 0, 0⟩) { s with steps := s.steps + 1, pc := s.pc + 1 }) (doI c.mt (c.code.getD s.pc.toNat ⟨0, 0, 0⟩) ⟨{ s with steps := s.steps + 1 }, false⟩) := do_tells c.mt (c.code.getD s.pc.toNat ⟨0, 0, 0⟩) { s with steps := s.steps + 1 } ht ho
      generalize doI c.mt (c.code.getD s.pc.toNat ⟨0, 0, 0⟩) ⟨{ s with steps := s.steps + 1 }, false⟩ = g at *
      generalize Mc.doI c.mt (c.code.getD s.pc.toNat ⟨0, 0, 0⟩) { s with steps := s.steps + 1, pc := s.pc + 1 } = r at *
      cases r with
      | ok u m =>
        have hd' : g = ⟨m, false⟩ := hd
        subst hd'
        exact run_tells c f m k1 k2
      | stop m =>
        obtain ⟨e0, e1, e2, e3, e4, e5⟩ := hd
        rw [if_pos e0]
        exact ⟨e1, e2, e3, e4, e5⟩
    · have hc : Mc.core c.code c.mt s = Mc.halt 6 { s with steps := s.steps + 1 } := if_neg h2
      rw [if_neg h2, hc]
      exact ⟨rfl, rfl, rfl, rfl, rfl⟩

end Rg
end Go.Proofs.Ytljdoholcdhkhaa
