/-
  The four statements on tokens, as contracts of their functions: each call answers true and changes nothing that was there.
-/
import Derived.Test.YtfiejjaocfcheaaDoorJoin
namespace Go.Proofs.YtfiejjaocfcheaaDoor
open Go.RowKit

theorem bt {w w1 w2 : World} (h : Below w.heap.size w w1) (k : Below w1.heap.size w1 w2) : Below w.heap.size w w2 := h.trans (k.mono h.size)

set_option maxRecDepth 100000 in
set_option maxHeartbeats 1000000 in
theorem LexChecks_c (a : Option Addr) (cap : Nat) (ts : List Tk) (w : World) (hT : ToksAt w a ts) (hl : ts.length ≤ 1000000000000000) (htab : Tab w) :
    Calls Tryd.prog 3 #[.slice a ts.length cap] w fun e w' => e = .returned (.bool true) ∧ Below w.heap.size w w' := by
  have HT : Hid (ToksAt w a ts) := hT
  clear hT
  have HS : Hid (∀ w : World, ToksAt w a ts → Tab w → Calls Tryd.prog 7 #[.slice a ts.length cap] w fun e w' => e = .returned (.tuple #[.string (showR ts), .int .i64 (checkN ts)]) ∧ Below w.heap.size w w') := fun w h1 h2 => Show_any a cap ts w h1 hl h2
  have HC : Hid (∀ w : World, ToksAt w a ts → Calls Tryd.prog 8 #[.slice a ts.length cap] w fun e w' => e = .returned (.int .i64 (checkN ts)) ∧ Below w.heap.size w w') := fun w h => CheckToks_any a cap ts w h hl
  have HP : Hid (∀ w : World, ToksAt w a ts → Calls Tryd.prog 11 #[.slice a ts.length cap] w fun e w' => e = .returned (.int .i64 (checkN ts)) ∧ Below w.heap.size w w') := fun w h => Check_any a cap ts w h hl
  have HX : Hid (checkN ts = 0 → ∀ w : World, ToksAt w a ts → Calls Tryd.prog 9 #[.slice a ts.length cap] w fun e w' => e = .returned (.string (showR ts)) ∧ Below w.heap.size w w') := fun h0 w h => by
    have := ToksText_any a cap ts w h (checkN_zero h0).2 (checkN_zero h0).1
    have e : showR ts = strOf (showL ts) := if_pos h0
    rw [e]
    exact this
  have HN : Hid (checkN ts ≠ 0 → showR ts = ⟨#[]⟩) := fun h0 => if_neg h0
  generalize checkN ts = N at *
  generalize showR ts = S at *
  by_cases h0 : N = 0
  · have hb0 : (N == 0) = true := beq_iff_eq.2 h0
    have HX2 := HX.out h0
    have HX3 : Hid (∀ w : World, ToksAt w a ts → Calls Tryd.prog 9 #[.slice a ts.length cap] w fun e w' => e = .returned (.string S) ∧ Below w.heap.size w w') := HX2
    clear HX HX2 HN h0
    go_enter Tryd.func3, Tryd.ntmps3
    go_wp2_with fail
    refine (HS.out _ HT.out htab).mono ?_
    rintro e w1 ⟨rfl, hb1⟩
    go_wp2_with fail
    refine (HC.out _ (HT.out.later hb1)).mono ?_
    rintro e w2 ⟨rfl, hb2⟩
    go_wp2_with fail
    refine (HX3.out _ ((HT.out.later hb1).later hb2)).mono ?_
    rintro e w3 ⟨rfl, hb3⟩
    go_wp2_with fail
    refine (lexBegun_any _ (((htab.later hb1).later hb2).later hb3)).mono ?_
    rintro e w4 ⟨rfl, hb4⟩
    go_wp2_with fail
    refine (HP.out _ ((((HT.out.later hb1).later hb2).later hb3).later hb4)).mono ?_
    rintro e w5 ⟨rfl, hb5⟩
    have hbb : Below w.heap.size w w5 := bt (bt (bt (bt hb1 hb2) hb3) hb4) hb5
    go_wp2_with fail
    go_ret
    exact ⟨rfl, hbb⟩
  · have hb0 : (N == 0) = false := beq_eq_false_iff_ne.2 h0
    have hS : S = ⟨#[]⟩ := HN.out h0
    subst hS
    clear HX HN h0
    go_enter Tryd.func3, Tryd.ntmps3
    go_wp2_with fail
    refine (HS.out _ HT.out htab).mono ?_
    rintro e w1 ⟨rfl, hb1⟩
    go_wp2_with fail
    refine (HC.out _ (HT.out.later hb1)).mono ?_
    rintro e w2 ⟨rfl, hb2⟩
    go_wp2_with fail
    refine (lexBegun_any _ ((htab.later hb1).later hb2)).mono ?_
    rintro e w4 ⟨rfl, hb4⟩
    go_wp2_with fail
    refine (HP.out _ (((HT.out.later hb1).later hb2).later hb4)).mono ?_
    rintro e w5 ⟨rfl, hb5⟩
    have hbb : Below w.heap.size w w5 := bt (bt (bt hb1 hb2) hb4) hb5
    go_wp2_with fail
    go_ret
    exact ⟨rfl, hbb⟩

theorem lexT_len (s : ByteArray) : (lexT s).length ≤ 4096 := by
  unfold lexT
  split
  · simp
  · cases h : lexAt s 0 with
    | none => simp
    | some ts =>
      rw [lexAt_zero] at h
      have := (lexL_right _ _ ts rfl h).2
      rw [Lx.len_toList] at this
      simp
      omega

set_option maxRecDepth 100000 in
set_option maxHeartbeats 1000000 in
theorem LexReads_c (s : ByteArray) (w : World) (hs : s.size ≤ maxLen) (htab : Tab w) :
    Calls Tryd.prog 4 #[.string s] w fun e w' => e = .returned (.bool true) ∧ Below w.heap.size w w' := by
  have hlen := lexT_len s
  have H1 : Hid (∀ w : World, Calls Tryd.prog 12 #[.string s] w fun e w' => ∃ a cap, e = .returned (.tuple #[.slice a (lexT s).length cap, .int .i64 (lexE s)]) ∧ ToksAt w' a (lexT s) ∧ Below w.heap.size w w') := fun w => Lex_any s w hs
  have H2 : Hid (∀ w : World, Calls Tryd.prog 13 #[.string s] w fun e w' => ∃ a cap, e = .returned (.tuple #[.slice a (lexT s).length cap, .int .i64 (lexE s)]) ∧ ToksAt w' a (lexT s) ∧ Below w.heap.size w w') := fun w => LexOf_any s w hs
  generalize lexT s = ts at *
  generalize lexE s = N at *
  go_enter Tryd.func4, Tryd.ntmps4
  go_wp2_with fail
  refine (H1.out _).mono ?_
  rintro e w1 ⟨a1, c1, rfl, hT1, hb1⟩
  have HT1 : Hid (ToksAt w1 a1 ts) := hT1
  clear hT1 H1
  go_wp2_with fail
  refine (H2.out _).mono ?_
  rintro e w2 ⟨a2, c2, rfl, hT2, hb2⟩
  have HT2 : Hid (ToksAt w2 a2 ts) := hT2
  clear hT2 H2
  go_wp2_with fail
  refine (lexBegun_any _ ((htab.later hb1).later hb2)).mono ?_
  rintro e w3 ⟨rfl, hb3⟩
  go_wp2_with fail
  refine (SameToks_same a1 a2 c1 c2 ts _ ((HT1.out.later hb2).later hb3) (HT2.out.later hb3) (by omega)).mono ?_
  rintro e w4 ⟨rfl, hb4⟩
  have hbb : Below w.heap.size w w4 := bt (bt (bt hb1 hb2) hb3) hb4
  go_wp2_with fail
  go_ret
  exact ⟨rfl, hbb⟩

/- what Lex tells of what Show told -/
theorem lex_of_show {ts : List Tk} (h : checkN ts = 0) (hs : (showR ts).size ≤ 4096) : lexT (showR ts) = ts ∧ lexE (showR ts) = 0 := by
  have hR := (checkN_zero h).1
  have e : showR ts = strOf (showL ts) := if_pos h
  refine lex_yes (by omega) ?_
  rw [lexAt_zero, e, strOf_list]
  exact lex_show ts hR
theorem check_of_lex (s : ByteArray) (h : lexE s = 0) : checkN (lexT s) = 0 := by
  have hlen := lexT_len s
  unfold lexE at h
  split at h
  · omega
  · rename_i hl
    cases hx : lexAt s 0 with
    | none => rw [hx] at h; simp at h
    | some ts =>
      have ht := (lex_yes hl hx).1
      rw [ht] at hlen ⊢
      rw [lexAt_zero] at hx
      have hR := (lexL_right _ _ ts rfl hx).1
      exact checkN_ok hR.1 hR.2 (by omega)

set_option maxRecDepth 100000 in
set_option maxHeartbeats 1000000 in
theorem LexBack_rest (s : ByteArray) (hs : s.size ≤ maxLen) : (∀ w : World, Calls Tryd.prog 12 #[.string s] w fun e w' => ∃ a cap, e = .returned (.tuple #[.slice a (lexT s).length cap, .int .i64 (lexE s)]) ∧ ToksAt w' a (lexT s) ∧ Below w.heap.size w w') ∧
    (lexE s = 0 → ∀ (w : World) (a : Option Addr) (cap : Nat), ToksAt w a (lexT s) → Calls Tryd.prog 11 #[.slice a (lexT s).length cap] w fun e w' => e = .returned (.int .i64 0) ∧ Below w.heap.size w w') :=
  ⟨fun w => Lex_any s w hs, fun h w a cap hT => by
    have := Check_any a cap (lexT s) w hT (by have := lexT_len s; omega)
    rw [check_of_lex s h] at this
    exact this⟩

set_option maxRecDepth 100000 in
set_option maxHeartbeats 1000000 in
theorem LexBack_c (a : Option Addr) (cap : Nat) (ts : List Tk) (s : ByteArray) (w : World) (hT : ToksAt w a ts) (hl : ts.length ≤ 1000000000000000) (hs : s.size ≤ maxLen) (htab : Tab w) :
    Calls Tryd.prog 5 #[.slice a ts.length cap, .string s] w fun e w' => e = .returned (.bool true) ∧ Below w.heap.size w w' := by
  have HT : Hid (ToksAt w a ts) := hT
  have HS : Hid (∀ w : World, ToksAt w a ts → Tab w → Calls Tryd.prog 7 #[.slice a ts.length cap] w fun e w' => e = .returned (.tuple #[.string (showR ts), .int .i64 (checkN ts)]) ∧ Below w.heap.size w w') := fun w h1 h2 => Show_any a cap ts w h1 hl h2
  have HL : Hid (checkN ts = 0 → (showR ts).size ≤ 4096 → ∀ w : World, Calls Tryd.prog 12 #[.string (showR ts)] w fun e w' => ∃ a' cap', e = .returned (.tuple #[.slice a' ts.length cap', .int .i64 0]) ∧ ToksAt w' a' ts ∧ Below w.heap.size w w') := fun h0 h1 w => by
    have := Lex_any (showR ts) w (by unfold maxLen; omega)
    rw [(lex_of_show h0 h1).1, (lex_of_show h0 h1).2] at this
    exact this
  obtain ⟨r1, r2⟩ := LexBack_rest s hs
  have R1 : Hid (∀ w : World, Calls Tryd.prog 12 #[.string s] w fun e w' => ∃ a cap, e = .returned (.tuple #[.slice a (lexT s).length cap, .int .i64 (lexE s)]) ∧ ToksAt w' a (lexT s) ∧ Below w.heap.size w w') := r1
  have R2 : Hid (lexE s = 0 → ∀ (w : World) (a : Option Addr) (cap : Nat), ToksAt w a (lexT s) → Calls Tryd.prog 11 #[.slice a (lexT s).length cap] w fun e w' => e = .returned (.int .i64 0) ∧ Below w.heap.size w w') := r2
  clear hT r1 r2
  have hlen := lexT_len s
  generalize checkN ts = N at *
  generalize showR ts = S at *
  generalize lexT s = us at *
  generalize lexE s = M at *
  by_cases hM : M = 0
  · subst hM
    have R3 : Hid (∀ (w : World) (a : Option Addr) (cap : Nat), ToksAt w a us → Calls Tryd.prog 11 #[.slice a us.length cap] w fun e w' => e = .returned (.int .i64 0) ∧ Below w.heap.size w w') := R2.out rfl
    clear R2
    by_cases h0 : N = 0 ∧ S.size ≤ 4096
    · obtain ⟨rfl, h1⟩ := h0
      have HL2 : Hid (∀ w : World, Calls Tryd.prog 12 #[.string S] w fun e w' => ∃ a' cap', e = .returned (.tuple #[.slice a' ts.length cap', .int .i64 0]) ∧ ToksAt w' a' ts ∧ Below w.heap.size w w') := HL.out rfl h1
      clear HL
      go_enter Tryd.func5, Tryd.ntmps5
      go_wp2_with fail
      refine (HS.out _ HT.out htab).mono ?_
      rintro e w1 ⟨rfl, hb1⟩
      go_wp2_with fail
      refine (HL2.out _).mono ?_
      rintro e w2 ⟨a2, c2, rfl, hT2, hb2⟩
      have HT2 : Hid (ToksAt w2 a2 ts) := hT2
      clear hT2
      go_wp2_with fail
      refine (SameToks_same a2 a c2 cap ts _ HT2.out ((HT.out.later hb1).later hb2) hl).mono ?_
      rintro e w3 ⟨rfl, hb3⟩
      go_wp2_with fail
      refine (R1.out _).mono ?_
      rintro e w4 ⟨a4, c4, rfl, hT4, hb4⟩
      have HT4 : Hid (ToksAt w4 a4 us) := hT4
      clear hT4
      go_wp2_with fail
      refine (lexBegun_any _ ((((htab.later hb1).later hb2).later hb3).later hb4)).mono ?_
      rintro e w5 ⟨rfl, hb5⟩
      go_wp2_with fail
      refine (R3.out _ a4 c4 (HT4.out.later hb5)).mono ?_
      rintro e w6 ⟨rfl, hb6⟩
      have hbb : Below w.heap.size w w6 := bt (bt (bt (bt (bt hb1 hb2) hb3) hb4) hb5) hb6
      go_wp2_with fail
      go_ret
      exact ⟨rfl, hbb⟩
    · have hpart : (N == 0) = false ∨ ((N == 0) = true ∧ 4096 < S.size) := by
        by_cases hN : N = 0
        · exact Or.inr ⟨beq_iff_eq.2 hN, by omega⟩
        · exact Or.inl (beq_eq_false_iff_ne.2 hN)
      clear h0 HL
      rcases hpart with hp | ⟨hp, hp2⟩
      all_goals
        go_enter Tryd.func5, Tryd.ntmps5
        go_wp2_with fail
        refine (HS.out _ HT.out htab).mono ?_
        rintro e w1 ⟨rfl, hb1⟩
        go_wp2_with fail
        refine (R1.out _).mono ?_
        rintro e w4 ⟨a4, c4, rfl, hT4, hb4⟩
        have HT4 : Hid (ToksAt w4 a4 us) := hT4
        clear hT4
        go_wp2_with fail
        refine (lexBegun_any _ ((htab.later hb1).later hb4)).mono ?_
        rintro e w5 ⟨rfl, hb5⟩
        go_wp2_with fail
        refine (R3.out _ a4 c4 (HT4.out.later hb5)).mono ?_
        rintro e w6 ⟨rfl, hb6⟩
        have hbb : Below w.heap.size w w6 := bt (bt (bt hb1 hb4) hb5) hb6
        go_wp2_with fail
        go_ret
        exact ⟨rfl, hbb⟩
  · have hMb : (M != 0) = true := by rw [bne_iff_ne]; exact hM
    clear hM R2
    by_cases h0 : N = 0 ∧ S.size ≤ 4096
    · obtain ⟨rfl, h1⟩ := h0
      have HL2 : Hid (∀ w : World, Calls Tryd.prog 12 #[.string S] w fun e w' => ∃ a' cap', e = .returned (.tuple #[.slice a' ts.length cap', .int .i64 0]) ∧ ToksAt w' a' ts ∧ Below w.heap.size w w') := HL.out rfl h1
      clear HL
      go_enter Tryd.func5, Tryd.ntmps5
      go_wp2_with fail
      refine (HS.out _ HT.out htab).mono ?_
      rintro e w1 ⟨rfl, hb1⟩
      go_wp2_with fail
      refine (HL2.out _).mono ?_
      rintro e w2 ⟨a2, c2, rfl, hT2, hb2⟩
      have HT2 : Hid (ToksAt w2 a2 ts) := hT2
      clear hT2
      go_wp2_with fail
      refine (SameToks_same a2 a c2 cap ts _ HT2.out ((HT.out.later hb1).later hb2) hl).mono ?_
      rintro e w3 ⟨rfl, hb3⟩
      go_wp2_with fail
      refine (R1.out _).mono ?_
      rintro e w4 ⟨a4, c4, rfl, hT4, hb4⟩
      clear hT4
      go_wp2_with fail
      refine (lexBegun_any _ ((((htab.later hb1).later hb2).later hb3).later hb4)).mono ?_
      rintro e w5 ⟨rfl, hb5⟩
      have hbb : Below w.heap.size w w5 := bt (bt (bt (bt hb1 hb2) hb3) hb4) hb5
      go_wp2_with fail
      go_ret
      exact ⟨rfl, hbb⟩
    · have hpart : (N == 0) = false ∨ ((N == 0) = true ∧ 4096 < S.size) := by
        by_cases hN : N = 0
        · exact Or.inr ⟨beq_iff_eq.2 hN, by omega⟩
        · exact Or.inl (beq_eq_false_iff_ne.2 hN)
      clear h0 HL
      rcases hpart with hp | ⟨hp, hp2⟩
      all_goals
        go_enter Tryd.func5, Tryd.ntmps5
        go_wp2_with fail
        refine (HS.out _ HT.out htab).mono ?_
        rintro e w1 ⟨rfl, hb1⟩
        go_wp2_with fail
        refine (R1.out _).mono ?_
        rintro e w4 ⟨a4, c4, rfl, hT4, hb4⟩
        clear hT4
        go_wp2_with fail
        refine (lexBegun_any _ ((htab.later hb1).later hb4)).mono ?_
        rintro e w5 ⟨rfl, hb5⟩
        have hbb : Below w.heap.size w w5 := bt (bt hb1 hb4) hb5
        go_wp2_with fail
        go_ret
        exact ⟨rfl, hbb⟩

end Go.Proofs.YtfiejjaocfcheaaDoor
