/-
  The machine's steps that are made of smaller ones: a local that is set, an index, the reckoning.
-/
import Derived.Test.YtpahhhhfhnpmjaaOpt
namespace Go.Proofs.Ytpahhhhfhnpmjaa
open Go.RowKit
set_option maxRecDepth 100000

theorem putLo_any (B R : Nat) (c : Mc.Cfg) (w0 : World) (s : Mc.St) (k x : Int) (a : Option Addr) (cap : Nat) (w : World) (T : Nat → Nat) (v : Vs) (h : MAt B R c w0 w T v s) (ho : OwnAt v s a) :
    Calls Try.prog 50 #[.pointer (some ⟨R, 0, none⟩), .slice a s.lo.length cap, .int .i64 k, .int .i64 x] w (MEnd B R c w0 (Mc.putLo k x s) unitV) := by
  obtain ⟨hc, hfz⟩ := ho.cells h
  obtain ⟨-, -, -, -, -, -, -, -, -, -, -, -, c12, hf⟩ := h.cell
  by_cases hk : 0 ≤ k ∧ k < s.lo.length
  · have HP : Mc.putLo k x s = .ok () { s with lo := s.lo.set k.toNat x } := if_pos (by simp [Mc.inB]; exact hk)
    obtain ⟨h0, h1⟩ := hk
    obtain ⟨n, rfl⟩ := Int.eq_ofNat_of_zero_le h0
    have hne : s.lo ≠ [] := fun e => by rw [e] at h1; simp at h1; omega
    rcases ho with ho | ⟨g, cap0, hv, rfl⟩
    · exact absurd ho hne
    rcases hc with hc | ⟨g', off, e, hc⟩
    · exact absurd hc hne
    cases e
    refine (put_in R g _ s.lo.length cap n x _ w (by omega) (hc n (by omega)) (hfz g _ rfl hne _)).mono ?_
    rintro e w' ⟨rfl, rfl⟩
    refine MEnd.ok HP rfl ⟨T, v, ?_⟩
    rw [Int.toNat_natCast]
    exact h.cellLo hv n x
  · have HP : Mc.putLo k x s = .stop { s with en := 6 } := if_neg (by simp [Mc.inB]; omega)
    refine (put_out R a s.lo.length cap k x _ w hk c12 (hf 12)).mono ?_
    rintro e w' ⟨rfl, rfl⟩
    exact MEnd.stop HP rfl ⟨_, _, h.setEn 6⟩

theorem bind_ok {α β : Type} {r : Mc.Res α} {a : α} {s : Mc.St} (f : α → Mc.St → Mc.Res β) (h : r = .ok a s) : r.bind f = f a s := by rw [h]; rfl
theorem bind_stop {α β : Type} {r : Mc.Res α} {s : Mc.St} (f : α → Mc.St → Mc.Res β) (h : r = .stop s) : r.bind f = .stop s := by rw [h]; rfl
theorem MEnd.of_stop {α : Type} {B R : Nat} {c : Mc.Cfg} {w0 w' : World} {r : Mc.Res α} {rep : α → Value} {s : Mc.St} (hr : r = .stop s) (h : Mch B R c w0 w' s) : MEnd B R c w0 r rep (.panicked (thrown s.en)) w' := MEnd.stop hr rfl h
theorem Mch.get {B R : Nat} {c : Mc.Cfg} {w0 w : World} {s : Mc.St} (h : Mch B R c w0 w s) : (∃ x, w.cell? ⟨R, 12, none⟩ = some x) ∧ w.frozen? ⟨R, 12, none⟩ = false ∧ R < w.heap.size := by
  obtain ⟨T, v, h⟩ := h
  exact ⟨⟨_, h.cell.2.2.2.2.2.2.2.2.2.2.2.2.1⟩, h.cell.2.2.2.2.2.2.2.2.2.2.2.2.2 12, h.ltR⟩
theorem Mch.setEn {B R : Nat} {c : Mc.Cfg} {w0 w : World} {s : Mc.St} (h : Mch B R c w0 w s) (e : Int) : Mch B R c w0 (w.setCell ⟨R, 12, none⟩ (.int .i64 e)) { s with en := e } := by
  obtain ⟨T, v, h⟩ := h
  exact ⟨T, v, h.setEn e⟩
/- the machine stops: the contract of stop in that form -/
theorem halt_any {B R : Nat} {c : Mc.Cfg} {w0 : World} {s : Mc.St} (e : Int) (w : World) (h : Mch B R c w0 w s) :
    Calls Try.prog 44 #[.pointer (some ⟨R, 0, none⟩), .int .i64 e] w fun en w' => en = .panicked (thrown e) ∧ Mch B R c w0 w' { s with en := e } := by
  obtain ⟨⟨x, hx⟩, hf, _⟩ := h.get
  refine (stop_any R e x w hx hf).mono ?_
  rintro en w' ⟨rfl, rfl⟩
  exact ⟨rfl, h.setEn e⟩
theorem broken_any {B R : Nat} {c : Mc.Cfg} {w0 : World} {s : Mc.St} (b : Bool) (w : World) (hb : b = false) (h : Mch B R c w0 w s) :
    Calls Try.prog 45 #[.pointer (some ⟨R, 0, none⟩), .bool b] w fun en w' => en = .panicked (thrown 6) ∧ Mch B R c w0 w' { s with en := 6 } := by
  obtain ⟨⟨x, hx⟩, hf, _⟩ := h.get
  refine (must_no R b x w hb hx hf).mono ?_
  rintro en w' ⟨rfl, rfl⟩
  exact ⟨rfl, h.setEn 6⟩

theorem MEnd.parts {α : Type} {B R : Nat} {c : Mc.Cfg} {w0 w' : World} {r : Mc.Res α} {rep : α → Value} {e : Ending} (h : MEnd B R c w0 r rep e w') :
    (∃ a s, Hid (r = .ok a s) ∧ e = .returned (rep a) ∧ Hid (Mch B R c w0 w' s)) ∨ ∃ s, Hid (r = .stop s) ∧ e = .panicked (thrown s.en) ∧ Hid (Mch B R c w0 w' s) := by
  cases r with
  | ok a s => exact Or.inl ⟨a, s, rfl, h.1, h.2⟩
  | stop s => exact Or.inr ⟨s, rfl, h.1, h.2⟩
theorem MEndL.parts {α : Type} {B R : Nat} {c : Mc.Cfg} {w0 w' : World} {L D : Value} {r : Mc.Res α} {rep : α → Value} {e : Ending} (h : MEndL B R c w0 L D r rep e w') :
    (∃ a s, Hid (r = .ok a s) ∧ e = .returned (rep a) ∧ Hid (∃ T v, MAt B R c w0 w' T v s ∧ v.lo = L ∧ v.da = D)) ∨ ∃ s, Hid (r = .stop s) ∧ e = .panicked (thrown s.en) ∧ Hid (Mch B R c w0 w' s) := by
  cases r with
  | ok a s => exact Or.inl ⟨a, s, rfl, h.1, h.2⟩
  | stop s => exact Or.inr ⟨s, rfl, h.1, h.2⟩

set_option maxHeartbeats 400000 in
theorem index_any (B R : Nat) (c : Mc.Cfg) (w0 : World) (s : Mc.St) (a b : Int) (w : World) (h : Mch B R c w0 w s) :
    Calls Try.prog 52 #[.pointer (some ⟨R, 0, none⟩), .int .i64 a, .int .i64 b] w (MEnd B R c w0 (Mc.index a b s) unitV) := by
  have HM : Hid (Mch B R c w0 w s) := h
  clear h
  go_enter Try.func52, Try.ntmps52
  go_wp2_with fail
  refine (pop_any B R c w0 s _ HM.out).mono ?_
  intro e w1 he
  rcases he.parts with ⟨i, s1, HR, rfl, Hm⟩ | ⟨s1, HR, rfl, Hm⟩ <;> clear he <;> simp only [intV]
  · have HP : Hid (Mc.index a b s = if i < 0 ∨ b ≤ i then Mc.halt 2 s1 else Mc.push (wrap64 (a + i)) s1) := bind_ok _ HR.out
    clear HR
    by_cases h0 : i < 0 ∨ b ≤ i
    · have HP2 : Hid (Mc.index a b s = .stop { s1 with en := 2 }) := HP.out.trans (if_pos h0)
      have h0' : i < 0 ∨ 0 ≤ i ∧ b ≤ i := by omega
      clear h0
      rcases h0' with h0 | ⟨h0, h1⟩
      all_goals
        go_wp2_with fail
        refine (halt_any 2 _ Hm.out).mono ?_
        rintro e w2 ⟨rfl, hm⟩
        go_wp2_with fail
        exact ⟨rfl, MEnd.stop HP2.out rfl hm⟩
    · have HP2 : Hid (Mc.index a b s = Mc.push (wrap64 (a + i)) s1) := HP.out.trans (if_neg h0)
      have h1 : ¬ i < 0 := fun h => h0 (Or.inl h)
      have h2 : ¬ b ≤ i := fun h => h0 (Or.inr h)
      clear h0 HP
      go_wp2_with fail
      refine (push_any B R c w0 s1 _ _ Hm.out).mono ?_
      intro e w2 he
      rcases he.parts with ⟨u, s2, HR, rfl, Hm2⟩ | ⟨s2, HR, rfl, Hm2⟩ <;> clear he <;> simp only [unitV]
      · go_wp2_with fail
        go_returns
        exact MEnd.ok (HP2.out.trans HR.out) rfl Hm2.out
      · go_wp2_with fail
        exact ⟨rfl, MEnd.of_stop (HP2.out.trans HR.out) Hm2.out⟩
  · go_wp2_with fail
    exact ⟨rfl, MEnd.of_stop (bind_stop _ HR.out) Hm.out⟩

set_option maxHeartbeats 400000 in
theorem math_any (B R : Nat) (c : Mc.Cfg) (w0 : World) (s : Mc.St) (op : Int) (w : World) (h : Mch B R c w0 w s) :
    Calls Try.prog 53 #[.pointer (some ⟨R, 0, none⟩), .int .i64 op] w (MEnd B R c w0 (Mc.math op s) unitV) := by
  have HM : Hid (Mch B R c w0 w s) := h
  clear h
  cases hop : Mc.isOp op with
  | false =>
    have HP : Hid (Mc.math op s = .stop { s with en := 6 }) := if_neg (by simp [hop])
    go_enter Try.func53, Try.ntmps53
    go_wp2_with (go_at_call 42; refine (isOp_any _ _).mono ?_; rintro e w' ⟨rfl, rfl⟩)
    refine (broken_any _ _ (by first | rfl | exact hop) HM.out).mono ?_
    rintro e w2 ⟨rfl, hm⟩
    go_wp2_with fail
    exact ⟨rfl, MEnd.stop HP.out rfl hm⟩
  | true =>
    have HP : Hid (Mc.math op s = (Mc.pop s).bind fun b s => (Mc.pop s).bind fun a s => match Mc.reck op a b with
      | some n => Mc.push n s
      | none => Mc.halt 1 s) := if_pos hop
    go_enter Try.func53, Try.ntmps53
    go_wp2_with (go_at_call 42; refine (isOp_any _ _).mono ?_; rintro e w' ⟨rfl, rfl⟩)
    refine (must_yes _ _ _ (by first | rfl | exact hop)).mono ?_
    rintro e w' ⟨rfl, rfl⟩
    go_wp2_with fail
    refine (pop_any B R c w0 s _ HM.out).mono ?_
    intro e w1 he
    rcases he.parts with ⟨b, s1, HR, rfl, Hm⟩ | ⟨s1, HR, rfl, Hm⟩ <;> clear he <;> simp only [intV]
    · have HP1 := hid (HP.out.trans (bind_ok _ HR.out))
      clear HP HR
      go_wp2_with fail
      refine (pop_any B R c w0 s1 _ Hm.out).mono ?_
      intro e w2 he
      rcases he.parts with ⟨a, s2, HR, rfl, Hm2⟩ | ⟨s2, HR, rfl, Hm2⟩ <;> clear he <;> simp only [intV]
      · have HP2 := hid (HP1.out.trans (bind_ok _ HR.out))
        clear HP1 HR
        go_wp2_with fail
        refine (reckon_any _ _ _ _).mono ?_
        rintro e w3 ⟨rfl, rfl⟩
        cases hr : Mc.reck op a b with
        | none =>
          have HP3 : Hid (Mc.math op s = .stop { s2 with en := 1 }) := by
            have := HP2.out
            rw [hr] at this
            exact this
          clear hr HP2
          simp only [reckV]
          go_wp2_with fail
          refine (halt_any 1 _ Hm2.out).mono ?_
          rintro e w2 ⟨rfl, hm⟩
          go_wp2_with fail
          exact ⟨rfl, MEnd.stop HP3.out rfl hm⟩
        | some n =>
          have HP3 : Hid (Mc.math op s = Mc.push n s2) := by
            have := HP2.out
            rw [hr] at this
            exact this
          clear hr HP2
          simp only [reckV]
          go_wp2_with fail
          refine (push_any B R c w0 s2 _ _ Hm2.out).mono ?_
          intro e w2 he
          rcases he.parts with ⟨u, s3, HR, rfl, Hm3⟩ | ⟨s3, HR, rfl, Hm3⟩ <;> clear he <;> simp only [unitV]
          · go_wp2_with fail
            go_returns
            exact MEnd.ok (HP3.out.trans HR.out) rfl Hm3.out
          · go_wp2_with fail
            exact ⟨rfl, MEnd.of_stop (HP3.out.trans HR.out) Hm3.out⟩
      · go_wp2_with fail
        exact ⟨rfl, MEnd.of_stop (HP1.out.trans (bind_stop _ HR.out)) Hm2.out⟩
    · go_wp2_with fail
      exact ⟨rfl, MEnd.of_stop (HP.out.trans (bind_stop _ HR.out)) Hm.out⟩

end Go.Proofs.Ytpahhhhfhnpmjaa
