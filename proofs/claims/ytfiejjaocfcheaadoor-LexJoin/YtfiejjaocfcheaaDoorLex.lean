/-
  The program's Lex answers the tokens of the text or its error; the comparison of two lists of the same tokens answers true.
-/
import Derived.Test.YtfiejjaocfcheaaDoorToks
import Derived.Deep.QuietTactic
import Derived.BigQuiet
namespace Go.Proofs.YtfiejjaocfcheaaDoor
open Go.RowKit

set_option maxHeartbeats 400000 in
theorem Lex_any (s : ByteArray) (w : World) (hs : s.size ≤ maxLen) :
    Calls Tryd.prog 12 #[.string s] w fun e w' => ∃ a cap, e = .returned (.tuple #[.slice a (lexT s).length cap, .int .i64 (lexE s)]) ∧ ToksAt w' a (lexT s) ∧ Below w.heap.size w w' := by
  unfold maxLen at hs
  by_cases hlong : 4096 < s.size
  · have HE : Hid (lexT s = [] ∧ lexE s = 2) := lex_long hlong
    go_enter Tryd.func12, Tryd.ntmps12
    go_wp2_with fail
    go_ret2
    exact ⟨none, 0, by rw [HE.out.1, HE.out.2]; rfl, by rw [HE.out.1]; exact Or.inl rfl, Below.refl _ _⟩
  · have HC : Hid (Calls Tryd.prog 23 #[.string s] w fun e w' => ∃ a cap, e = .returned (.tuple #[.slice a (lexT s).length cap, .int .i64 (lexE s)]) ∧ ToksAt w' a (lexT s) ∧ Below w.heap.size w w') := tokens_any s w (by omega)
    generalize lexT s = ts at *
    generalize lexE s = n at *
    go_enter Tryd.func12, Tryd.ntmps12
    go_wp2_with fail
    refine HC.out.mono ?_
    rintro e w2 ⟨a, cap, rfl, hT, hb⟩
    have HT : Hid (ToksAt w2 a ts) := hT
    clear hT HC
    go_wp2_with fail
    go_ret2
    exact ⟨a, cap, rfl, HT.out, hb⟩

set_option maxHeartbeats 800000 in
theorem SameToks_same (a b : Option Addr) (c1 c2 : Nat) (ts : List Tk) (w : World) (ha : ToksAt w a ts) (hb : ToksAt w b ts) (hl : ts.length ≤ 1000000000000000) :
    Calls Tryd.prog 14 #[.slice a ts.length c1, .slice b ts.length c2] w fun e w' => e = .returned (.bool true) ∧ Below w.heap.size w w' := by
  have HA : Hid (ToksAt w a ts) := ha
  have HB : Hid (ToksAt w b ts) := hb
  clear ha hb
  go_enter Tryd.func14, Tryd.ntmps14
  go_wp2_with fail
  go_loopw [5] (fun i wr => ∃ k : Nat, k ≤ ts.length ∧ i = .int .i64 k ∧ Below w.heap.size w wr) (fun i _ => ts.length - (intOf i).toNat)
  case atStart => exact ⟨0, Nat.zero_le _, rfl, Below.refl _ _⟩
  case round =>
    obtain ⟨k, hk, rfl, hbl⟩ := hrel
    by_cases hlt : k < ts.length
    · obtain ⟨b1, o1, rfl, hT⟩ := (HA.out.later hbl).place hlt
      have hc0 := hT.kind k hlt
      have hc1 := hT.num k hlt
      have hc2 := hT.text k hlt
      clear hT
      obtain ⟨b2, o2, rfl, hT⟩ := (HB.out.later hbl).place hlt
      have hd0 := hT.kind k hlt
      have hd1 := hT.num k hlt
      have hd2 := hT.text k hlt
      clear hT
      go_wp2_with fail
      go_quiet ((fail))
      go_wp2_with fail
      go_roundw
      case rel => exact ⟨k + 1, by omega, by go_num, below_drewN hbl _⟩
      case measure => simp [intOf]; omega
    · go_wp2_with fail
      go_ret
      exact ⟨rfl, hbl⟩

/- The same with a bound on how many pieces are read, so that it can be reckoned. -/
def lexF : Nat → ByteArray → Nat → Option (List Tk)
  | 0, s, a => if a < s.size then none else some []
  | f + 1, s, a =>
    if h : a < s.size then
      if blankB s[a] then lexF f s (a + Lx.pieceN s a)
      else match tokOf (s.extract a (a + Lx.pieceN s a)) with
        | none => none
        | some t => (lexF f s (a + Lx.pieceN s a)).map (t :: ·)
    else some []
theorem lexF_eq : ∀ (f : Nat) (s : ByteArray) (a : Nat), s.size - a ≤ f → lexF f s a = lexAt s a
  | 0, s, a, h => by rw [lexAt_end s a (by omega)]; unfold lexF; rw [if_neg (by omega)]
  | f + 1, s, a, h => by
    have hp := Lx.pieceN_pos s a
    have ih := lexF_eq f s (a + Lx.pieceN s a) (by omega)
    rw [lexAt, lexF, ih]
    cases tokOf (s.extract a (a + Lx.pieceN s a)) <;> rfl
def text0 : ByteArray := ⟨#[105, 102, 40, 97, 49, 60, 50, 48, 41, 10, 32, 120]⟩
def toks0 : List Tk := [⟨1, 0, ⟨#[105, 102]⟩⟩, ⟨3, 0, ⟨#[40]⟩⟩, ⟨1, 0, ⟨#[97, 49]⟩⟩, ⟨3, 0, ⟨#[60]⟩⟩, ⟨2, 20, ⟨#[]⟩⟩, ⟨3, 0, ⟨#[41]⟩⟩, ⟨1, 0, ⟨#[120]⟩⟩]
theorem lex_text0 : lexAt text0 0 = some toks0 := by
  rw [← lexF_eq 12 text0 0 (by decide)]
  rfl
theorem lex_text1 : lexAt ⟨#[48, 49]⟩ 0 = none := by
  rw [← lexF_eq 2 ⟨#[48, 49]⟩ 0 (by decide)]
  rfl
theorem lex_text2 : lexAt ⟨#[49, 97]⟩ 0 = none := by
  rw [← lexF_eq 2 ⟨#[49, 97]⟩ 0 (by decide)]
  rfl
theorem check_toks0 : checkN toks0 = 0 := by
  have h1 : toks0.all kindB = true := rfl
  have h2 : toks0.all Tk.okB = true := by
    have e : Tk.okB ⟨2, 20, ⟨#[]⟩⟩ = true := by unfold Tk.okB; rw [Lib.toList_data]; rfl
    simp only [toks0, List.all_cons, List.all_nil, Bool.and_true, e]
    rfl
  exact checkN_ok h1 h2 (by decide)
theorem show_toks0 : showL toks0 = [105, 102, 32, 40, 32, 97, 49, 32, 60, 32, 50, 48, 32, 41, 32, 120] := by
  have h20 : Lib.decDigits 20 = [50, 48] := by rw [Lib.decDigits, dif_neg (by omega), Lx.dec_small _ (by omega)]; rfl
  simp only [toks0, showL, List.flatMap_cons, List.flatMap_nil, txtL]
  simp [h20]

theorem lexT0 : lexT text0 = toks0 ∧ lexE text0 = 0 := lex_yes (by decide) lex_text0
theorem lexT1 : lexT ⟨#[48, 49]⟩ = [] ∧ lexE ⟨#[48, 49]⟩ = 1 := lex_no (by decide) lex_text1
theorem lexT2 : lexT ⟨#[49, 97]⟩ = [] ∧ lexE ⟨#[49, 97]⟩ = 1 := lex_no (by decide) lex_text2
theorem showR0 : showR toks0 = ⟨#[105, 102, 32, 40, 32, 97, 49, 32, 60, 32, 50, 48, 32, 41, 32, 120]⟩ := by
  unfold showR; rw [if_pos check_toks0, show_toks0]; rfl

set_option maxRecDepth 100000 in
set_option maxHeartbeats 1000000 in
theorem lexBegun_any (w : World) (htab : Tab w) :
    Calls Tryd.prog 10 #[] w fun e w' => e = .returned (.bool true) ∧ Below w.heap.size w w' := by
  have H0 : Hid (∀ w : World, Calls Tryd.prog 12 #[.string ⟨#[105, 102, 40, 97, 49, 60, 50, 48, 41, 10, 32, 120]⟩] w fun e w' => ∃ a cap, e = .returned (.tuple #[.slice a 7 cap, .int .i64 0]) ∧ ToksAt w' a toks0 ∧ Below w.heap.size w w') := fun w => by
    have := Lex_any text0 w (by decide)
    rw [lexT0.1, lexT0.2] at this
    exact this
  have H1 : Hid (∀ w : World, Calls Tryd.prog 12 #[.string ⟨#[48, 49]⟩] w fun e w' => ∃ a cap, e = .returned (.tuple #[.slice a 0 cap, .int .i64 1]) ∧ Below w.heap.size w w') := fun w => by
    refine (Lex_any ⟨#[48, 49]⟩ w (by decide)).mono ?_
    rintro e w' ⟨a, cap, rfl, _, hb⟩
    rw [lexT1.1, lexT1.2]
    exact ⟨a, cap, rfl, hb⟩
  have H2 : Hid (∀ w : World, Calls Tryd.prog 12 #[.string ⟨#[49, 97]⟩] w fun e w' => ∃ a cap, e = .returned (.tuple #[.slice a 0 cap, .int .i64 1]) ∧ Below w.heap.size w w') := fun w => by
    refine (Lex_any ⟨#[49, 97]⟩ w (by decide)).mono ?_
    rintro e w' ⟨a, cap, rfl, _, hb⟩
    rw [lexT2.1, lexT2.2]
    exact ⟨a, cap, rfl, hb⟩
  have HS : Hid (∀ (w : World) (a : Option Addr) (cap : Nat), ToksAt w a toks0 → Tab w → Calls Tryd.prog 7 #[.slice a 7 cap] w fun e w' => e = .returned (.tuple #[.string ⟨#[105, 102, 32, 40, 32, 97, 49, 32, 60, 32, 50, 48, 32, 41, 32, 120]⟩, .int .i64 0]) ∧ Below w.heap.size w w') := fun w a cap hT htab => by
    have := Show_any a cap toks0 w hT (by decide) htab
    rw [showR0, check_toks0] at this
    exact this
  go_enter Tryd.func10, Tryd.ntmps10
  go_wp2_with fail
  refine (H0.out _).mono ?_
  rintro e w1 ⟨a, cap, rfl, hT, hb1⟩
  have HT : Hid (ToksAt w1 a toks0) := hT
  clear hT H0
  go_wp2_with fail
  refine (HS.out _ a cap HT.out (htab.later hb1)).mono ?_
  rintro e w2 ⟨rfl, hb2⟩
  clear HS
  go_wp2_with fail
  refine (H1.out _).mono ?_
  rintro e w3 ⟨a3, cap3, rfl, hb3⟩
  clear H1
  go_wp2_with fail
  refine (H2.out _).mono ?_
  rintro e w4 ⟨a4, cap4, rfl, hb4⟩
  clear H2
  obtain ⟨b, off, rfl, hT⟩ := (((HT.out.later hb2).later hb3).later hb4).place (k := 4) (by decide)
  have hc0 : w4.cell? ⟨b, off, none⟩ = some (.int .i64 1) := hT.kind 0 (by decide)
  have hc1 : w4.cell? ⟨b, off + 1, none⟩ = some (.int .i64 0) := hT.num 0 (by decide)
  have hc2 : w4.cell? ⟨b, off + 2, none⟩ = some (.string ⟨#[105, 102]⟩) := hT.text 0 (by decide)
  have hd0 : w4.cell? ⟨b, off + 12, none⟩ = some (.int .i64 2) := hT.kind 4 (by decide)
  have hd1 : w4.cell? ⟨b, off + 13, none⟩ = some (.int .i64 20) := hT.num 4 (by decide)
  have hd2 : w4.cell? ⟨b, off + 14, none⟩ = some (.string ⟨#[]⟩) := hT.text 4 (by decide)
  have hb : Below w.heap.size w w4 := ((hb1.trans (hb2.mono hb1.size)).trans (hb3.mono (Nat.le_trans hb1.size hb2.size))).trans (hb4.mono (Nat.le_trans (Nat.le_trans hb1.size hb2.size) hb3.size))
  clear hT HT hb1 hb2 hb3 hb4
  go_wp2_with fail
  go_ret
  exact ⟨rfl, hb⟩

end Go.Proofs.YtfiejjaocfcheaaDoor
