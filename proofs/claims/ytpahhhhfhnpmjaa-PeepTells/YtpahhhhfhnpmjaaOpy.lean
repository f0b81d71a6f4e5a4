/-
  What the machine enters, in whatever case; a call within a statement whose order is drawn.
-/
import Derived.Test.YtpahhhhfhnpmjaaOpv
import Derived.Test.YtpahhhhfhnpmjaaOpw
import Derived.Test.YtpahhhhfhnpmjaaOpx
namespace Go.Proofs.Ytpahhhhfhnpmjaa
open Go.RowKit Go.Shelf
set_option maxRecDepth 100000

set_option maxHeartbeats 400000 in
theorem enter_any (B R : Nat) (c : Mc.Cfg) (w0 : World) (s : Mc.St) (a b : Int) (w : World) (h : Mch B R c w0 w s) (ha : fit64 a) (hb : fit64 b) :
    Calls Try.prog 55 #[.pointer (some ⟨R, 0, none⟩), .int .i64 a, .int .i64 b] w (MEnd B R c w0 (Mc.enter a b s) unitV) := by
  obtain ⟨ha0, ha1⟩ := ha
  obtain ⟨hb0, hb1⟩ := hb
  have HM : Hid (Mch B R c w0 w s) := h
  by_cases hab : 0 ≤ a ∧ 0 ≤ b ∧ b ≤ 2048 - a
  · by_cases hle : a ≤ s.stack.length
    · have HP : Mc.enter a b s = .ok () { s with lo := s.stack.drop (s.stack.length - a.toNat) ++ List.replicate b.toNat 0, stack := s.stack.take (s.stack.length - a.toNat) } := (if_pos hab).trans (if_pos hle)
      obtain ⟨h0, h1, h2⟩ := hab
      obtain ⟨ka, rfl⟩ := Int.eq_ofNat_of_zero_le h0
      obtain ⟨kb, rfl⟩ := Int.eq_ofNat_of_zero_le h1
      refine (enter_ok B R c w0 s ka kb w h (by omega) (by omega)).mono ?_
      rintro e w' ⟨rfl, hm⟩
      exact MEnd.ok HP rfl (by simpa only [Int.toNat_natCast] using hm)
    · have HP : Hid (Mc.enter a b s = .stop { s with en := 6 }) := (if_pos hab).trans (if_neg hle)
      obtain ⟨h0, h1, h2⟩ := hab
      obtain ⟨T, ⟨cv, st, lo, fr, da, iv, ou⟩, h⟩ := h
      obtain ⟨sa, scap, hv, hscap, hsmax⟩ := h.st.form
      simp only at hv
      subst hv
      have c2 := h.cell.2.2.1
      have hbs := h.bst
      simp only at c2
      clear h
      generalize s.stack.length = n at *
      go_enter Try.func55, Try.ntmps55
      go_wp2_with fail
      refine (must_yes _ _ _ (by first | (simp; done) | (simp; omega))).mono ?_
      rintro e w' ⟨rfl, rfl⟩
      go_wp2_with fail
      refine (broken_any _ _ (by first | (simp; done) | (simp; omega)) HM.out).mono ?_
      rintro e w2 ⟨rfl, hm⟩
      go_wp2_with fail
      exact ⟨rfl, MEnd.stop HP.out rfl hm⟩
  · have HP : Hid (Mc.enter a b s = .stop { s with en := 6 }) := if_neg hab
    clear h
    by_cases h0 : 0 ≤ a
    · by_cases h1 : 0 ≤ b
      · have h2 : ¬ b ≤ 2048 - a := fun h => hab ⟨h0, h1, h⟩
        clear hab
        go_enter Try.func55, Try.ntmps55
        go_wp2_with fail
        refine (broken_any _ _ (by first | (simp; done) | (simp; omega)) HM.out).mono ?_
        rintro e w2 ⟨rfl, hm⟩
        go_wp2_with fail
        exact ⟨rfl, MEnd.stop HP.out rfl hm⟩
      · clear hab
        go_enter Try.func55, Try.ntmps55
        go_wp2_with fail
        refine (broken_any _ _ (by first | (simp; done) | (simp; omega)) HM.out).mono ?_
        rintro e w2 ⟨rfl, hm⟩
        go_wp2_with fail
        exact ⟨rfl, MEnd.stop HP.out rfl hm⟩
    · clear hab
      go_enter Try.func55, Try.ntmps55
      go_wp2_with fail
      refine (broken_any _ _ (by first | (simp; done) | (simp; omega)) HM.out).mono ?_
      rintro e w2 ⟨rfl, hm⟩
      go_wp2_with fail
      exact ⟨rfl, MEnd.stop HP.out rfl hm⟩

theorem Mch.alloc {B R : Nat} {c : Mc.Cfg} {w0 w : World} {s : Mc.St} (h : Mch B R c w0 w s) (o : Obj) : Mch B R c w0 (w.alloc o) s := by
  obtain ⟨T, v, h⟩ := h
  exact ⟨T, v, h.alloc o⟩
theorem Mch.drew {B R : Nat} {c : Mc.Cfg} {w0 w : World} {s : Mc.St} (h : Mch B R c w0 w s) : Mch B R c w0 w.drew s := by
  obtain ⟨T, v, h⟩ := h
  exact ⟨T, v, h.drew⟩

section
variable {P : Program} {ops : Array Oper} {o : Oper} {a : Act} {w : World} {K : Act → World → Prop} {Q : Exit → Act → World → Prop} {E : Prop}
theorem run_callN (f : FuncId) (xs : Array Operand) (tys : Array TypeId) (ho : o.op = .call { callee := .value (.func f), args := xs, argTypes := tys })
    (hen : Enters P f) (vs : Array Value) (hx : xs.map a.eval = vs) : (execOp a.eval o).run P w = .ok (.enter f vs) w := by
  have h := hen vs w
  have hf : a.eval (.func f) = .func (.func f) #[] #[] := rfl
  simp [execOp, ho, resolve, invoke, hx, hf, h, Deferred.ofValue]
theorem step_callE (hgd : o.guard = none) (f : FuncId) (xs : Array Operand) (tys : Array TypeId) (ho : o.op = .call { callee := .value (.func f), args := xs, argTypes := tys })
    (hen : Enters P f) (vs : Array Value) (hx : xs.map a.eval = vs) {C : Ending → World → Prop} (hC : Calls P f vs w C)
    (h3 : ∀ w', ¬ C .outgrown w') (h2 : ∀ c w', C (.panicked c) w' → Q (.panic c) a w') (h1 : ∀ v w', C (.returned v) w' → K (a.put o.dst v) w') : if Region.wanted o (yielded ops a.tmps) = true then Oper.wp P o a w K Q else E := by
  have hw : Region.wanted o (yielded ops a.tmps) = true := by simp [Region.wanted, hgd]
  rw [if_pos hw]
  unfold Oper.wp
  rw [run_callN f xs tys ho hen vs hx, Oper.upon_enter]
  refine hC.mono ?_
  intro e w' he
  cases e with
  | returned v => exact h1 v w' he
  | panicked c => exact h2 c w' he
  | outgrown => exact absurd he (h3 w')
end
theorem wpOp_callE {P : Program} {ops : Array Oper} {a : Act} {w : World} {K : Act → World → Prop} {Q : Exit → Act → World → Prop} {i : Nat} {o : Oper} (hi : ops[i]? = some o) (hgd : o.guard = none) (f : FuncId) (xs : Array Operand) (tys : Array TypeId) (ho : o.op = .call { callee := .value (.func f), args := xs, argTypes := tys })
    (hen : Enters P f) (vs : Array Value) (hx : xs.map a.eval = vs) {C : Ending → World → Prop} (hC : Calls P f vs w C)
    (h3 : ∀ w', ¬ C .outgrown w') (h2 : ∀ c w', C (.panicked c) w' → Q (.panic c) a w') (h1 : ∀ v w', C (.returned v) w' → K (a.put o.dst v) w') : wpOp P ops Q i K a w := by
  have hw : Region.wanted o (yielded ops a.tmps) = true := by simp [Region.wanted, hgd]
  have h := step_callE (ops := ops) (E := True) hgd f xs tys ho hen vs hx hC h3 h2 h1
  rw [if_pos hw] at h
  unfold wpOp
  rw [hi]
  simp only [hw, if_true]
  exact Or.inl h
theorem MEnd.noOut {α : Type} {B R : Nat} {c : Mc.Cfg} {w0 w' : World} {r : Mc.Res α} {rep : α → Value} : ¬ MEnd B R c w0 r rep .outgrown w' := by
  intro h; cases r with
  | ok a s => cases h.1
  | stop s => cases h.1
theorem MEnd.ret {α : Type} {B R : Nat} {c : Mc.Cfg} {w0 w' : World} {r : Mc.Res α} {rep : α → Value} {v : Value} (h : MEnd B R c w0 r rep (.returned v) w') : ∃ a s, Hid (r = .ok a s) ∧ v = rep a ∧ Hid (Mch B R c w0 w' s) := by
  cases r with
  | ok a s => exact ⟨a, s, rfl, by cases h.1; rfl, h.2⟩
  | stop s => cases h.1
theorem MEnd.pan {α : Type} {B R : Nat} {c : Mc.Cfg} {w0 w' : World} {r : Mc.Res α} {rep : α → Value} {ch : List PanicEntry} (h : MEnd B R c w0 r rep (.panicked ch) w') : ∃ s, Hid (r = .stop s) ∧ ch = thrown s.en ∧ Hid (Mch B R c w0 w' s) := by
  cases r with
  | ok a s => cases h.1
  | stop s => exact ⟨s, rfl, by cases h.1; rfl, h.2⟩
theorem en35 : Enters Try.prog 47 := enters_of Try.func47 (by kernel_rfl) rfl
theorem en36 : Enters Try.prog 48 := enters_of Try.func48 (by kernel_rfl) rfl
theorem en37 : Enters Try.prog 49 := enters_of Try.func49 (by kernel_rfl) rfl
theorem en38 : Enters Try.prog 50 := enters_of Try.func50 (by kernel_rfl) rfl
theorem en39 : Enters Try.prog 51 := enters_of Try.func51 (by kernel_rfl) rfl

end Go.Proofs.Ytpahhhhfhnpmjaa
