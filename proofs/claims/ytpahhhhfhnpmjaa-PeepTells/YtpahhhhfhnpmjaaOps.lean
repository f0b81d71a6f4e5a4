/-
  The machine's own small steps: push, pop, tick, the next number that comes in, a number that is told.
-/
import Derived.Test.YtpahhhhfhnpmjaaMem
namespace Go.Proofs.Ytpahhhhfhnpmjaa
open Go.RowKit

def Mch (B R : Nat) (c : Mc.Cfg) (w0 w : World) (s : Mc.St) : Prop := ∃ T v, MAt B R c w0 w T v s
def MEnd {α : Type} (B R : Nat) (c : Mc.Cfg) (w0 : World) (r : Mc.Res α) (rep : α → Value) (e : Ending) (w' : World) : Prop :=
  match r with
  | .ok a s => e = .returned (rep a) ∧ Mch B R c w0 w' s
  | .stop s => e = .panicked (thrown s.en) ∧ Mch B R c w0 w' s
def unitV (_ : Unit) : Value := .tuple #[]
def intV (n : Int) : Value := .int .i64 n

theorem info3 : (Try.prog.info? 3).map (fun i => (i.zero, i.size, i.bytes)) = some (some (.int .i64 0), 1, 8) := by kernel_rfl
theorem info61 : (Try.prog.info? 72).map (fun i => (i.zero, i.size, i.bytes)) = some (some (.agg #[.int .i64 0, .int .i64 0]), 2, 16) := by kernel_rfl
theorem grown_refl (w : World) (r : Option Nat) : w.grownBy w r := ⟨rfl, rfl, rfl, Nat.le_refl _, fun _ _ _ => rfl⟩

set_option maxRecDepth 100000
theorem MEnd.ok {α : Type} {B R : Nat} {c : Mc.Cfg} {w0 w' : World} {r : Mc.Res α} {rep : α → Value} {a : α} {s : Mc.St} {u : Value} (hr : r = .ok a s) (hu : u = rep a) (h : Mch B R c w0 w' s) : MEnd B R c w0 r rep (.returned u) w' := by
  subst hr; subst hu; exact ⟨rfl, h⟩
theorem MEnd.stop {α : Type} {B R : Nat} {c : Mc.Cfg} {w0 w' : World} {r : Mc.Res α} {rep : α → Value} {s : Mc.St} {e : Int} (hr : r = .stop s) (he : e = s.en) (h : Mch B R c w0 w' s) : MEnd B R c w0 r rep (.panicked (thrown e)) w' := by
  subst hr; subst he; exact ⟨rfl, h⟩

theorem MAt.far {B R : Nat} {c : Mc.Cfg} {w0 w w1 : World} {T : Nat → Nat} {v : Vs} {s : Mc.St} {vr : Value} {m : Nat} (h : MAt B R c w0 w T v s) (hm : ∀ k, vr.ownBlock = some k → T k = m) (hm1 : m ≠ 1) (hg : w.grownBy w1 vr.ownBlock) :
    (∀ j, w1.cell? ⟨R, j, none⟩ = w.cell? ⟨R, j, none⟩) ∧ (∀ j, w1.frozen? ⟨R, j, none⟩ = false) ∧ R < w1.heap.size := by
  have e : w1.heap[R]? = w.heap[R]? := hg.block R h.ltR (fun e => hm1 (by rw [← hm R e.symm]; exact h.tR))
  exact ⟨fun j => World.cell?_of_block (w := w) e, fun j => (World.frozen?_of_block (w := w) e).trans (h.cell.2.2.2.2.2.2.2.2.2.2.2.2.2 j), Nat.lt_of_lt_of_le h.ltR hg.size⟩
theorem MAt.drewN {B R : Nat} {c : Mc.Cfg} {w0 w : World} {T : Nat → Nat} {v : Vs} {s : Mc.St} (h : MAt B R c w0 w T v s) (n : Nat) : MAt B R c w0 (w.drewN n) T v s := h.later ⟨rfl, rfl, rfl, Nat.le_refl _, fun _ _ => rfl⟩ h.hB
theorem ints_snoc (l : List Int) (n : Int) : ints l ++ [.int .i64 n] = ints (l ++ [n]) := by simp [ints]
theorem len_snoc {α : Type} (l : List α) (n : α) : (l ++ [n]).length = l.length + 1 := by simp

theorem lies_at {g n cap H : Nat} {o : Option Nat} (h : o = some g ∨ g = H) : ∀ k, Value.ownBlock (.slice (some ⟨g, 0, none⟩) n cap) = some k → k < H → o = some k := by
  intro k hk hlt
  have e : g = k := by simpa [Value.ownBlock] using hk
  subst e
  rcases h with h | h
  · exact h
  · omega

set_option maxHeartbeats 400000 in
theorem push_any (B R : Nat) (c : Mc.Cfg) (w0 : World) (s : Mc.St) (n : Int) (w : World) (h : Mch B R c w0 w s) :
    Calls Try.prog 47 #[.pointer (some ⟨R, 0, none⟩), .int .i64 n] w (MEnd B R c w0 (Mc.push n s) unitV) := by
  obtain ⟨T, ⟨cv, st, lo, fr, da, iv, ou⟩, h⟩ := h
  obtain ⟨i0, hi, hz0, hz1, hz2⟩ := info_parts info3
  obtain ⟨a, cap, hv, hcap, hmax⟩ := h.st.form
  simp only at hv
  subst hv
  have HM : Hid (MAt B R c w0 w T ⟨cv, .slice a s.stack.length cap, lo, fr, da, iv, ou⟩ s) := h
  obtain ⟨-, -, c2, -, -, -, -, -, -, -, -, -, c12, hf⟩ := h.cell
  simp only at c2
  unfold maxLen at hmax
  have hbst := h.bst
  have hRl := h.ltR
  clear h
  by_cases hl : s.stack.length < 2048
  · have HP : Hid (Mc.push n s = .ok () { s with stack := s.stack ++ [n] }) := if_pos hl
    go_enter Try.func47, Try.ntmps47
    go_wp2_with fail
    refine (must_yes _ _ _ (by simp; omega)).mono ?_
    rintro e w' ⟨rfl, rfl⟩
    go_wp2_with (at_builtin; refine wpList_append_lies _ rfl _ _ _ rfl B 3 i0 _ 1 8 Try.underlying37 hi hz0 hz1 hz2 rfl (by omega) (.slice a s.stack.length cap) s.stack.length (ints s.stack) rfl (HM.out.alloc _).st.own ⟨_, 0, none⟩ 1 1 [.int .i64 n] rfl rfl (cell_one_new _ _ _) (by simp; rfl) (by omega) (by unfold maxLen; omega) (by omega) (by have := HM.out.hB; simp; omega) _ rfl ?_; intro g cap' w1 hown1 hg hat hlt; obtain ⟨fc, ff, fl⟩ := (HM.out.alloc _).far (fun k e => HM.out.st.mark k e) (by decide) hg; have fc2 := (fc 2).trans (HM.out.alloc _).cell.2.2.1; have ff2 := ff 2; have HO := hid hown1; have HG := hid hg; have HT := hid hat; clear hown1 hg hat fc ff)
    go_returns
    exact MEnd.ok HP.out rfl ⟨_, _, (HM.out.alloc _).setSt HG.out (by rw [len_snoc, ← ints_snoc]; exact HO.out) (lies_at HT.out) (by rw [len_snoc]; omega)⟩
  · have HP : Hid (Mc.push n s = .stop { s with en := 6 }) := if_neg hl
    go_enter Try.func47, Try.ntmps47
    go_wp2_with fail
    refine (must_no R _ _ _ (by simp; omega) c12 (hf 12)).mono ?_
    rintro e w' ⟨rfl, rfl⟩
    go_wp2_with fail
    exact ⟨rfl, MEnd.stop HP.out rfl ⟨_, _, HM.out.setEn 6⟩⟩

theorem ints_get (l : List Int) (k : Nat) (h : k < l.length) : (ints l)[k]? = some (.int .i64 (l.getD k 0)) := by
  simp [ints, List.getD_eq_getElem?_getD, List.getElem?_eq_getElem h]

/- as above, and the rows of the locals and of the data are the same ones -/
def MEndL {α : Type} (B R : Nat) (c : Mc.Cfg) (w0 : World) (L D : Value) (r : Mc.Res α) (rep : α → Value) (e : Ending) (w' : World) : Prop :=
  match r with
  | .ok a s => e = .returned (rep a) ∧ ∃ T v, MAt B R c w0 w' T v s ∧ v.lo = L ∧ v.da = D
  | .stop s => e = .panicked (thrown s.en) ∧ Mch B R c w0 w' s
theorem MEndL.ok {α : Type} {B R : Nat} {c : Mc.Cfg} {w0 w' : World} {L D : Value} {r : Mc.Res α} {rep : α → Value} {a : α} {s : Mc.St} {u : Value} {T : Nat → Nat} {v : Vs} (hr : r = .ok a s) (hu : u = rep a) (h : MAt B R c w0 w' T v s) (h1 : v.lo = L) (h2 : v.da = D) : MEndL B R c w0 L D r rep (.returned u) w' := by
  subst hr; subst hu; exact ⟨rfl, T, v, h, h1, h2⟩
theorem MEndL.stop {α : Type} {B R : Nat} {c : Mc.Cfg} {w0 w' : World} {L D : Value} {r : Mc.Res α} {rep : α → Value} {s : Mc.St} {e : Int} (hr : r = .stop s) (he : e = s.en) (h : Mch B R c w0 w' s) : MEndL B R c w0 L D r rep (.panicked (thrown e)) w' := by
  subst hr; subst he; exact ⟨rfl, h⟩
theorem MEndL.plain {α : Type} {B R : Nat} {c : Mc.Cfg} {w0 w' : World} {L D : Value} {r : Mc.Res α} {rep : α → Value} {e : Ending} (h : MEndL B R c w0 L D r rep e w') : MEnd B R c w0 r rep e w' := by
  cases r with
  | ok a s => obtain ⟨h1, T, v, h2, _⟩ := h; exact ⟨h1, T, v, h2⟩
  | stop s => exact h

set_option maxHeartbeats 400000 in
theorem pop_keep (B R : Nat) (c : Mc.Cfg) (w0 : World) (s : Mc.St) (w : World) (T : Nat → Nat) (v : Vs) (h : MAt B R c w0 w T v s) :
    Calls Try.prog 51 #[.pointer (some ⟨R, 0, none⟩)] w (fun e w' => MEndL B R c w0 v.lo v.da (Mc.pop s) intV e w' ∧ ∀ k, k ≠ R → w'.heap[k]? = w.heap[k]?) := by
  obtain ⟨cv, st, lo, fr, da, iv, ou⟩ := v
  simp only
  by_cases hl : 0 < s.stack.length
  · obtain ⟨k, hk⟩ : ∃ k, s.stack.length = k + 1 := ⟨s.stack.length - 1, by omega⟩
    have HP : Hid (Mc.pop s = .ok (s.stack.getD k 0) { s with stack := s.stack.take k }) := by
      show Mc.pop s = _
      unfold Mc.pop
      rw [if_pos hl, hk]; rfl
    obtain ⟨g, cap, hv, hcap, hmax, hBg, hgl, hmk, hfz, hcell⟩ := h.st.place hl
    simp only at hv
    subst hv
    have hx := hcell k _ (ints_get _ k (by omega))
    generalize s.stack.getD k 0 = x at *
    have hbst := h.bst
    rw [hk] at hbst hcap
    have HK : Hid (s.stack.length = k + 1) := hk
    have HM : Hid (MAt B R c w0 w T ⟨cv, .slice (some ⟨g, 0, none⟩) s.stack.length cap, lo, fr, da, iv, ou⟩ s) := h
    obtain ⟨-, -, c2, -, -, -, -, -, -, -, -, -, -, hf⟩ := h.cell
    simp only [hk] at c2
    unfold maxLen at hmax
    clear h hcell hl hk
    go_enter Try.func51, Try.ntmps51
    go_wp2_with fail
    refine (must_yes _ _ _ (by simp)).mono ?_
    rintro e w' ⟨rfl, rfl⟩
    go_wp2_with fail
    go_returns
    have hlen : (s.stack.take k).length = k := by rw [List.length_take, HK.out]; omega
    refine ⟨MEndL.ok HP.out rfl (HM.out.setSt (grown_refl _ _) ?_ (fun j e _ => e) (by rw [hlen]; omega)) rfl rfl, fun k hk => Below.heap_setCell _ _ _ k hk⟩
    have := (HM.out.st.cut (m := k) (by rw [HK.out]; omega) rfl).own
    rw [Nat.mul_one, ints_take] at this
    rw [hlen]
    exact this
  · have HP : Hid (Mc.pop s = .stop { s with en := 6 }) := if_neg hl
    obtain ⟨a, cap, hv, hcap, hmax⟩ := h.st.form
    simp only at hv
    subst hv
    have HM : Hid (MAt B R c w0 w T ⟨cv, .slice a s.stack.length cap, lo, fr, da, iv, ou⟩ s) := h
    obtain ⟨-, -, c2, -, -, -, -, -, -, -, -, -, c12, hf⟩ := h.cell
    have h0 : s.stack.length = 0 := by omega
    simp only [h0] at c2
    clear h hl h0 hcap
    go_enter Try.func51, Try.ntmps51
    go_wp2_with fail
    refine (must_no R _ _ _ (by simp) c12 (hf 12)).mono ?_
    rintro e w' ⟨rfl, rfl⟩
    go_wp2_with fail
    exact ⟨rfl, MEndL.stop HP.out rfl ⟨_, _, HM.out.setEn 6⟩, fun k hk => Below.heap_setCell _ _ _ k hk⟩
theorem pop_any (B R : Nat) (c : Mc.Cfg) (w0 : World) (s : Mc.St) (w : World) (h : Mch B R c w0 w s) :
    Calls Try.prog 51 #[.pointer (some ⟨R, 0, none⟩)] w (MEnd B R c w0 (Mc.pop s) intV) := by
  obtain ⟨T, v, h⟩ := h
  exact (pop_keep B R c w0 s w T v h).mono fun e w' h => h.1.plain

set_option maxHeartbeats 400000 in
theorem tell_any (B R : Nat) (c : Mc.Cfg) (w0 : World) (s : Mc.St) (n : Int) (w : World) (h : Mch B R c w0 w s) :
    Calls Try.prog 59 #[.pointer (some ⟨R, 0, none⟩), .int .i64 n] w (MEnd B R c w0 (Mc.tell n s) unitV) := by
  obtain ⟨T, ⟨cv, st, lo, fr, da, iv, ou⟩, h⟩ := h
  obtain ⟨i0, hi, hz0, hz1, hz2⟩ := info_parts info3
  obtain ⟨a, cap, hv, hcap, hmax⟩ := h.ou.form
  simp only at hv
  subst hv
  have HM : Hid (MAt B R c w0 w T ⟨cv, st, lo, fr, da, iv, .slice a s.out.length cap⟩ s) := h
  obtain ⟨-, -, -, -, -, -, -, c7, -, -, -, -, c12, hf⟩ := h.cell
  simp only at c7
  unfold maxLen at hmax
  have hbou := h.bou
  have hRl := h.ltR
  clear h
  by_cases hl : s.out.length = 200
  · have HP : Hid (Mc.tell n s = .stop { s with en := 5 }) := if_pos hl
    have hb : ((s.out.length : Int) == 200) = true := beq_iff_eq.2 (by omega)
    clear hl
    go_enter Try.func59, Try.ntmps59
    go_wp2_with fail
    refine (stop_any R _ _ _ c12 (hf 12)).mono ?_
    rintro e w' ⟨rfl, rfl⟩
    go_wp2_with fail
    exact ⟨rfl, MEnd.stop HP.out rfl ⟨_, _, HM.out.setEn 5⟩⟩
  · have HP : Hid (Mc.tell n s = .ok () { s with out := s.out ++ [n] }) := if_neg hl
    have hb : ((s.out.length : Int) == 200) = false := beq_eq_false_iff_ne.2 (by omega)
    have hl' : s.out.length < 200 := by omega
    clear hl
    go_enter Try.func59, Try.ntmps59
    go_wp2_with (at_builtin; refine wpList_append_lies _ rfl _ _ _ rfl B 3 i0 _ 1 8 Try.underlying37 hi hz0 hz1 hz2 rfl (by omega) (.slice a s.out.length cap) s.out.length (ints s.out) rfl (HM.out.alloc _).ou.own ⟨_, 0, none⟩ 1 1 [.int .i64 n] rfl rfl (cell_one_new _ _ _) (by simp; rfl) (by omega) (by unfold maxLen; omega) (by omega) (by have := HM.out.hB; simp; omega) _ rfl ?_; intro g cap' w1 hown1 hg hat hlt; obtain ⟨fc, ff, fl⟩ := (HM.out.alloc _).far (fun k e => HM.out.ou.mark k e) (by decide) hg; have fc7 := (fc 7).trans (HM.out.alloc _).cell.2.2.2.2.2.2.2.1; have ff7 := ff 7; have HO := hid hown1; have HG := hid hg; have HT := hid hat; clear hown1 hg hat fc ff)
    go_returns
    exact MEnd.ok HP.out rfl ⟨_, _, (HM.out.alloc _).setOu HG.out (by rw [len_snoc, ← ints_snoc]; exact HO.out) (lies_at HT.out) (by rw [len_snoc]; omega)⟩

set_option maxHeartbeats 400000 in
theorem tick_any (B R : Nat) (c : Mc.Cfg) (w0 : World) (s : Mc.St) (w : World) (h : Mch B R c w0 w s) :
    Calls Try.prog 57 #[.pointer (some ⟨R, 0, none⟩)] w (MEnd B R c w0 (Mc.tick c.mt s) unitV) := by
  obtain ⟨T, v, h⟩ := h
  have HM : Hid (MAt B R c w0 w T v s) := h
  obtain ⟨-, -, -, -, -, -, -, -, c8, c9, -, -, c12, hf⟩ := h.cell
  have ht0 := h.tk.1
  have ht1 := h.tk.2
  have hmt := h.cfg.mt
  have hRl := h.ltR
  clear h
  by_cases hl : s.ticks = c.mt
  · have HP : Hid (Mc.tick c.mt s = .stop { s with en := 3 }) := if_pos hl
    have hb : (s.ticks == c.mt) = true := beq_iff_eq.2 hl
    clear hl
    go_enter Try.func57, Try.ntmps57
    go_wp2_with fail
    go_quiet ((fail))
    go_wp2_with fail
    refine (stop_any R _ _ _ (by simpa using c12) (by simpa using hf 12)).mono ?_
    rintro e w' ⟨rfl, rfl⟩
    go_wp2_with fail
    exact ⟨rfl, MEnd.stop HP.out rfl ⟨_, _, (HM.out.drewN _).setEn 3⟩⟩
  · have HP : Hid (Mc.tick c.mt s = .ok () { s with ticks := s.ticks + 1 }) := if_neg hl
    have hb : (s.ticks == c.mt) = false := beq_eq_false_iff_ne.2 hl
    have hlt : s.ticks < c.mt := by omega
    clear hl
    go_enter Try.func57, Try.ntmps57
    go_wp2_with fail
    go_quiet ((fail))
    go_wp2_with fail
    go_returns
    exact MEnd.ok HP.out rfl ⟨_, _, (HM.out.drewN _).setTicks _ (by omega) (by omega)⟩

set_option maxHeartbeats 400000 in
theorem next_any (B R : Nat) (c : Mc.Cfg) (w0 : World) (s : Mc.St) (w : World) (h : Mch B R c w0 w s) :
    Calls Try.prog 58 #[.pointer (some ⟨R, 0, none⟩)] w (MEnd B R c w0 (Mc.next s) intV) := by
  obtain ⟨T, ⟨cv, st, lo, fr, da, iv, ou⟩, h⟩ := h
  obtain ⟨a, cap, hv, hcap, hmax, hcells⟩ := h.inp
  simp only at hv
  subst hv
  have HM : Hid (MAt B R c w0 w T ⟨cv, st, lo, fr, da, .slice a s.inp.length cap, ou⟩ s) := h
  obtain ⟨-, -, -, -, -, -, c6, -, -, -, -, -, -, hf⟩ := h.cell
  simp only at c6
  have hRl := h.ltR
  have hbin := h.bin
  unfold maxLen at hmax
  cases hin : s.inp with
  | nil =>
    have HP : Hid (Mc.next s = .ok 0 s) := by
      show Mc.next s = _
      have e : { s with inp := s.inp.tail } = s := by rw [hin]; cases s; simp_all
      unfold Mc.next
      rw [e, hin]; rfl
    rw [hin] at c6
    simp only [List.length_nil] at c6
    clear h hcap hcells hbin hin
    go_enter Try.func58, Try.ntmps58
    go_wp2_with fail
    go_returns
    exact MEnd.ok HP.out rfl ⟨_, _, HM.out⟩
  | cons x r =>
    have HP : Hid (Mc.next s = .ok x { s with inp := r }) := by
      show Mc.next s = _
      unfold Mc.next
      rw [hin]; rfl
    rw [hin] at c6 hbin hcap hcells
    rcases hcells with hc | ⟨b, off, rfl, hbB, hc⟩
    · cases hc
    have hx : w.cell? ⟨b, off, none⟩ = some (.int .i64 x) := (h.below.cell (p := ⟨b, off, none⟩) hbB).trans (hc 0 (by simp))
    have HI : Hid (IntsAt w0 B (.slice (some ⟨b, off + 1, none⟩) r.length (cap - 1)) r) := by
      refine ⟨_, _, rfl, by simp at hcap; omega, by unfold maxLen; omega, ?_⟩
      cases r with
      | nil => exact Or.inl rfl
      | cons y r => exact Or.inr ⟨b, off + 1, rfl, hbB, fun i hi => by
          have := hc (i + 1) (by simp at hi ⊢; omega)
          rw [show off + (i + 1) = off + 1 + i from by omega] at this
          simpa using this⟩
    simp only [List.length_cons] at c6 hbin hcap
    generalize hr : r.length = n at *
    have HR : Hid (r.length = n) := hr
    clear h hc hin hr
    by_cases hc1 : cap = 1
    · subst hc1
      obtain rfl : n = 0 := by omega
      have hr0 : r = [] := List.eq_nil_of_length_eq_zero HR.out
      subst hr0
      clear HI
      have HI : Hid (IntsAt w0 B (.slice (some ⟨b, off, none⟩) 0 0) []) := ⟨_, _, rfl, Nat.le_refl _, by unfold maxLen; omega, Or.inl rfl⟩
      go_enter Try.func58, Try.ntmps58
      go_wp2_with fail
      go_returns
      exact MEnd.ok HP.out rfl ⟨_, _, HM.out.setIn _ _ HI.out (by simp)⟩
    · go_enter Try.func58, Try.ntmps58
      go_wp2_with fail
      go_returns
      exact MEnd.ok HP.out rfl ⟨_, _, HM.out.setIn _ _ HI.out (by rw [HR.out]; omega)⟩

end Go.Proofs.Ytpahhhhfhnpmjaa
