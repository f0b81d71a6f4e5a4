/-
  Whether an image is right, and whether it may be run: the program's two looks.
-/
import Derived.Test.YtpahhhhfhnpmjaaMem
namespace Go.Proofs.Ytpahhhhfhnpmjaa
open Go.RowKit
set_option maxRecDepth 100000

/- an image's code in memory -/
def InsFit (i : Mc.Ins) : Prop := fit64 i.a ∧ fit64 i.b
def ImgAt (w : World) (a : Option Addr) (code : List Mc.Ins) : Prop :=
  code = [] ∨ ∃ b off, a = some ⟨b, off, none⟩ ∧ b < w.heap.size ∧ ∀ i (h : i < code.length),
    w.cell? ⟨b, off + i * 3, none⟩ = some (.int .i64 code[i].op) ∧ w.cell? ⟨b, off + i * 3 + 1, none⟩ = some (.int .i64 code[i].a) ∧ w.cell? ⟨b, off + i * 3 + 2, none⟩ = some (.int .i64 code[i].b)
theorem ImgAt.later {w w' : World} {a : Option Addr} {code : List Mc.Ins} (h : ImgAt w a code) (hb : Below w.heap.size w w') : ImgAt w' a code := by
  rcases h with h | ⟨b, off, e, hl, h⟩
  · exact Or.inl h
  · exact Or.inr ⟨b, off, e, Nat.lt_of_lt_of_le hl hb.size, fun i hi => ⟨(hb.cell (p := ⟨b, off + i * 3, none⟩) hl).trans (h i hi).1, (hb.cell (p := ⟨b, off + i * 3 + 1, none⟩) hl).trans (h i hi).2.1, (hb.cell (p := ⟨b, off + i * 3 + 2, none⟩) hl).trans (h i hi).2.2⟩⟩
theorem ImgAt.place {w : World} {a : Option Addr} {code : List Mc.Ins} (h : ImgAt w a code) {k : Nat} (hk : k < code.length) : ∃ b off, a = some ⟨b, off, none⟩ ∧ b < w.heap.size ∧
    w.cell? ⟨b, off + k * 3, none⟩ = some (.int .i64 code[k].op) ∧ w.cell? ⟨b, off + k * 3 + 1, none⟩ = some (.int .i64 code[k].a) ∧ w.cell? ⟨b, off + k * 3 + 2, none⟩ = some (.int .i64 code[k].b) := by
  rcases h with h | ⟨b, off, e, hl, h⟩
  · subst h; simp at hk
  · exact ⟨b, off, e, hl, h k hk⟩
def opB (i : Mc.Ins) : Bool := decide (1 ≤ i.op) && decide (i.op ≤ 22)
def checkI (code : List Mc.Ins) (d : Int) : Int :=
  if code.length < 1 ∨ 2048 < code.length then 2 else if code.all opB then (if d < 0 ∨ 512 < d then 3 else 0) else 4
theorem all_snoc {α : Type} (ts : List α) (p : α → Bool) (k : Nat) (h : k < ts.length) : (ts.take (k + 1)).all p = ((ts.take k).all p && p ts[k]) := by
  rw [List.take_succ_eq_append_getElem h, List.all_append]; simp
theorem all_not {α : Type} (ts : List α) (p : α → Bool) (k : Nat) (h : k < ts.length) (hp : p ts[k] = false) : ts.all p = false := by
  rw [List.all_eq_false]; exact ⟨ts[k], List.getElem_mem _, by simp [hp]⟩

set_option maxHeartbeats 800000 in
theorem Check_any (a : Option Addr) (cap : Nat) (code : List Mc.Ins) (d : Int) (w : World) (hT : ImgAt w a code) (hl : code.length ≤ 1000000000000000) :
    Calls Try.prog 14 #[.agg #[.slice a code.length cap, .int .i64 d]] w fun e w' => e = .returned (.int .i64 (checkI code d)) ∧ Below w.heap.size w w' := by
  have HT : Hid (ImgAt w a code) := hT
  clear hT
  by_cases h1 : code.length < 1 ∨ 2048 < code.length
  · have HF : Hid (checkI code d = 2) := if_pos h1
    have h1' : code.length < 1 ∨ 1 ≤ code.length ∧ 2048 < code.length := by omega
    clear h1
    generalize code.length = n at *
    rcases h1' with h1 | ⟨h1, h2⟩
    all_goals
      go_enter Try.func14, Try.ntmps14
      go_wp2_with fail
      go_ret
      exact ⟨ret_int HF.out.symm, (Below.refl _ _).alloc (Nat.le_refl _) _⟩
  have hn1 : ¬ code.length < 1 := fun h => h1 (Or.inl h)
  have hn2 : ¬ 2048 < code.length := fun h => h1 (Or.inr h)
  have H0 : Hid (checkI code d = if code.all opB then (if d < 0 ∨ 512 < d then 3 else 0) else 4) := if_neg h1
  clear h1
  go_enter Try.func14, Try.ntmps14
  go_wp2_with fail
  go_loopw [18, 4] (fun i _ wr => ∃ k : Nat, k ≤ code.length ∧ i = .int .i64 k ∧ (code.take k).all opB = true ∧ Below (w.heap.size + 1) (w.alloc (.cells #[.slice a code.length cap, .int .i64 d] 24)) wr) (fun i _ _ => code.length - (intOf i).toNat)
  case atStart => exact ⟨0, Nat.zero_le _, rfl, rfl, Below.refl _ _⟩
  case round =>
    obtain ⟨k, hk, rfl, hall, hb⟩ := hrel
    have HA := hid hall
    have HB : Hid (Below w.heap.size w wr) := ((Below.refl _ _).alloc (Nat.le_refl _) _).trans (hb.mono (by omega))
    clear hall
    by_cases hlt : k < code.length
    · obtain ⟨b, off, rfl, hbl, c0, c1, c2⟩ := (HT.out.later HB.out).place hlt
      have HS := hid (all_snoc code opB k hlt)
      by_cases hop : 1 ≤ code[k].op ∧ code[k].op ≤ 22
      · obtain ⟨ho1, ho2⟩ := hop
        have HO : Hid (opB code[k] = true) := by show opB code[k] = true; simp [opB, ho1, ho2]
        go_wp2_with fail
        go_roundw
        case rel => exact ⟨k + 1, by omega, by go_num, by rw [HS.out, HA.out, HO.out]; rfl, hb.alloc (by have := hb.size; simp at this; omega) _⟩
        case measure => simp [intOf]; omega
      · have HF : Hid (checkI code d = 4) := by
          show checkI code d = 4
          rw [H0.out, all_not code opB k hlt (by simp [opB]; omega)]; rfl
        by_cases hk1 : code[k].op < 1
        · clear hop
          go_wp2_with fail
          go_ret
          exact ⟨ret_int HF.out.symm, HB.out.alloc HB.out.size _⟩
        · have hk3 : 22 < code[k].op := by omega
          clear hop
          go_wp2_with fail
          go_ret
          exact ⟨ret_int HF.out.symm, HB.out.alloc HB.out.size _⟩
    · have HO : Hid (checkI code d = if d < 0 ∨ 512 < d then 3 else 0) := by
        show checkI code d = _
        have := HA.out
        rw [List.take_of_length_le (by omega)] at this
        rw [H0.out, this]; rfl
      have cd : wr.cell? ⟨w.heap.size, 1, none⟩ = some (.int .i64 d) := (hb.cell (p := ⟨w.heap.size, 1, none⟩) (by simp)).trans (by simp)
      by_cases hd : d < 0
      · have HF : Hid (checkI code d = 3) := HO.out.trans (if_pos (Or.inl hd))
        go_wp2_with fail
        go_ret
        exact ⟨ret_int HF.out.symm, HB.out⟩
      · by_cases hd2 : 512 < d
        · have HF : Hid (checkI code d = 3) := HO.out.trans (if_pos (Or.inr hd2))
          go_wp2_with fail
          go_ret
          exact ⟨ret_int HF.out.symm, HB.out⟩
        · have HF : Hid (checkI code d = 0) := HO.out.trans (if_neg (by omega))
          go_wp2_with fail
          go_ret
          exact ⟨ret_int HF.out.symm, HB.out⟩

def errR (code : List Mc.Ins) (d : Int) (n : Nat) (ticks steps : Int) : Int :=
  if checkI code d ≠ 0 then checkI code d else if 64 < n then 2 else if ticks < 0 ∨ 2000 < ticks ∨ steps < 0 ∨ 134217728 < steps then 3 else 0

set_option maxHeartbeats 800000 in
theorem checkRun_any (a : Option Addr) (cap : Nat) (code : List Mc.Ins) (d : Int) (ia : Option Addr) (n icap : Nat) (ticks steps : Int) (w : World) (hT : ImgAt w a code) (hl : code.length ≤ 1000000000000000) (hn : n ≤ 1000000000000000) :
    Calls Try.prog 26 #[.agg #[.slice a code.length cap, .int .i64 d], .slice ia n icap, .int .i64 ticks, .int .i64 steps] w fun e w' => e = .returned (.int .i64 (errR code d n ticks steps)) ∧ Below w.heap.size w w' := by
  have HT : Hid (ImgAt w a code) := hT
  have HC : Hid (∀ w : World, ImgAt w a code → Calls Try.prog 14 #[.agg #[.slice a code.length cap, .int .i64 d]] w fun e w' => e = .returned (.int .i64 (checkI code d)) ∧ Below w.heap.size w w') := fun w h => Check_any a cap code d w h hl
  have HE : Hid (errR code d n ticks steps = if checkI code d ≠ 0 then checkI code d else if 64 < n then 2 else if ticks < 0 ∨ 2000 < ticks ∨ steps < 0 ∨ 134217728 < steps then 3 else 0) := rfl
  clear hT
  generalize errR code d n ticks steps = E at *
  generalize checkI code d = C at *
  by_cases hc : C = 0
  · subst hc
    by_cases h64 : 64 < n
    · have HF : Hid (E = 2) := HE.out.trans ((if_neg (by simp)).trans (if_pos h64))
      go_enter Try.func26, Try.ntmps26
      go_wp2_with fail
      refine (HC.out _ (HT.out.later ((Below.refl _ _).alloc (Nat.le_refl _) _))).mono ?_
      rintro e w1 ⟨rfl, hb⟩
      go_wp2_with fail
      go_ret
      exact ⟨ret_int HF.out.symm, ((Below.refl _ _).alloc (Nat.le_refl _) _).trans (hb.mono (by simp))⟩
    · have HF : Hid (E = if ticks < 0 ∨ 2000 < ticks ∨ steps < 0 ∨ 134217728 < steps then 3 else 0) := HE.out.trans ((if_neg (by simp)).trans (if_neg h64))
      by_cases hr : ticks < 0 ∨ 2000 < ticks ∨ steps < 0 ∨ 134217728 < steps
      · have HF2 : Hid (E = 3) := HF.out.trans (if_pos hr)
        have hr' : ticks < 0 ∨ (¬ ticks < 0 ∧ 2000 < ticks) ∨ (¬ ticks < 0 ∧ ¬ 2000 < ticks ∧ steps < 0) ∨ (¬ ticks < 0 ∧ ¬ 2000 < ticks ∧ ¬ steps < 0 ∧ 134217728 < steps) := by omega
        clear hr
        rcases hr' with h1 | ⟨h1, h2⟩ | ⟨h1, h2, h3⟩ | ⟨h1, h2, h3, h4⟩
        all_goals
          go_enter Try.func26, Try.ntmps26
          go_wp2_with fail
          refine (HC.out _ (HT.out.later ((Below.refl _ _).alloc (Nat.le_refl _) _))).mono ?_
          rintro e w1 ⟨rfl, hb⟩
          go_wp2_with fail
          go_ret
          exact ⟨ret_int HF2.out.symm, ((Below.refl _ _).alloc (Nat.le_refl _) _).trans (hb.mono (by simp))⟩
      · have HF2 : Hid (E = 0) := HF.out.trans (if_neg hr)
        have h1 : ¬ ticks < 0 := by omega
        have h2 : ¬ 2000 < ticks := by omega
        have h3 : ¬ steps < 0 := by omega
        have h4 : ¬ 134217728 < steps := by omega
        clear hr
        go_enter Try.func26, Try.ntmps26
        go_wp2_with fail
        refine (HC.out _ (HT.out.later ((Below.refl _ _).alloc (Nat.le_refl _) _))).mono ?_
        rintro e w1 ⟨rfl, hb⟩
        go_wp2_with fail
        go_ret
        exact ⟨ret_int HF2.out.symm, ((Below.refl _ _).alloc (Nat.le_refl _) _).trans (hb.mono (by simp))⟩
  · have HF : Hid (E = C) := HE.out.trans (if_pos hc)
    have hc' : (C != 0) = true := by rw [bne_iff_ne]; exact hc
    clear hc
    go_enter Try.func26, Try.ntmps26
    go_wp2_with fail
    refine (HC.out _ (HT.out.later ((Below.refl _ _).alloc (Nat.le_refl _) _))).mono ?_
    rintro e w1 ⟨rfl, hb⟩
    go_wp2_with fail
    go_ret
    exact ⟨ret_int HF.out.symm, ((Below.refl _ _).alloc (Nat.le_refl _) _).trans (hb.mono (by simp))⟩

end Go.Proofs.Ytpahhhhfhnpmjaa
