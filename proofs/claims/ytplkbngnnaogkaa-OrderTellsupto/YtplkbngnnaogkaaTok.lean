/-
  The functions that make one token, tell its text or look whether it is right answer what the plain mathematics says; of what was there nothing changes.
-/
import Derived.Test.YtplkbngnnaogkaaLeafc
import Derived.Deep.LoopGhost
namespace Go.Proofs.Ytplkbngnnaogkaa
open Go.RowKit

theorem ret_ib {a b : Int} {x y : Bool} (h1 : a = b) (h2 : x = y) : Ending.returned (.tuple #[.int .i64 a, .bool x]) = .returned (.tuple #[.int .i64 b, .bool y]) := by rw [h1, h2]
theorem beq_eq_decide (a b : List UInt8) : (a == b) = decide (a = b) := by
  rw [Bool.eq_iff_iff]; simp
/- A token as the program holds it. -/
structure Tk where
  kind : Int
  n : Int
  text : ByteArray
def Tk.val (t : Tk) : Value := .agg #[.int .i64 t.kind, .int .i64 t.n, .string t.text]
def tokOf (s : ByteArray) : Option Tk :=
  if Lx.signL s.data.toList then some ⟨3, 0, s⟩ else if Lx.nameB s.data.toList then some ⟨1, 0, s⟩ else if Lx.numOk s.data.toList then some ⟨2, Lx.valL s.data.toList, ⟨#[]⟩⟩ else none

/- The library's table of powers of ten, as it is laid when the program begins. -/
def Tk.txt (t : Tk) : ByteArray := if t.kind = 2 then strOf (Lib.decDigits t.n.toNat) else t.text
def Tk.inB (t : Tk) : Prop := t.kind = 2 → 0 ≤ t.n ∧ t.n ≤ 1099511627775

end Go.Proofs.Ytplkbngnnaogkaa

namespace Go.Proofs.Ytplkbngnnaogkaa
open Go.RowKit

def Tk.okB (t : Tk) : Bool :=
  if t.kind = 1 then decide (t.n = 0) && Lx.nameB t.text.data.toList
  else if t.kind = 2 then t.text.toList.isEmpty && (decide (0 ≤ t.n) && decide (t.n ≤ 1099511627775))
  else decide (t.n = 0) && Lx.signL t.text.data.toList
theorem isEmpty_false {s : ByteArray} (h : ¬ s.toList.isEmpty = true) : 0 < s.size := by
  rcases Nat.eq_zero_or_pos s.size with h0 | h0
  · have : s.data.toList = [] := List.eq_nil_of_length_eq_zero (by rw [Lx.len_toList]; exact h0)
    rw [Lib.toList_data, this] at h; simp at h
  · exact h0

set_option maxRecDepth 100000 in
set_option maxHeartbeats 800000 in
theorem isToken_any (t : Tk) (w : World) (hs : t.text.size ≤ maxLen) :
    Calls Try.prog 94 #[t.val] w fun e w' => e = .returned (.bool t.okB) ∧ Below w.heap.size w w' := by
  obtain ⟨K, N, S⟩ := t
  simp only [Tk.val] at *
  by_cases k1 : K = 1
  · have HT : Hid (Tk.okB ⟨K, N, S⟩ = (decide (N = 0) && Lx.nameB S.data.toList)) := if_pos k1
    have hkb : (K == 1) = true := beq_iff_eq.2 k1
    clear k1
    by_cases n0 : N = 0
    · have hnb : (N == 0) = true := beq_iff_eq.2 n0
      have HR : Hid (Tk.okB ⟨K, N, S⟩ = Lx.nameB S.data.toList) := by show Tk.okB _ = _; rw [HT.out, decide_eq_true n0, Bool.true_and]
      clear n0
      go_enter Try.func94, Try.ntmps94
      go_wp2_with (go_at_call 97; refine (isName_any S _ hs).mono ?_; rintro e w' ⟨rfl, rfl⟩)
      go_ret
      exact ⟨ret_bool HR.out.symm, (Below.refl _ _).alloc (Nat.le_refl _) _⟩
    · have hnb : (N == 0) = false := beq_eq_false_iff_ne.2 n0
      have HR : Hid (Tk.okB ⟨K, N, S⟩ = false) := by show Tk.okB _ = _; rw [HT.out, decide_eq_false n0, Bool.false_and]
      clear n0
      go_enter Try.func94, Try.ntmps94
      go_wp2_with fail
      go_ret
      exact ⟨ret_bool HR.out.symm, (Below.refl _ _).alloc (Nat.le_refl _) _⟩
  · by_cases k2 : K = 2
    · have HT : Hid (Tk.okB ⟨K, N, S⟩ = (S.toList.isEmpty && (decide (0 ≤ N) && decide (N ≤ 1099511627775)))) := by show Tk.okB _ = _; unfold Tk.okB; rw [if_neg k1, if_pos k2]
      have hkb : (K == 1) = false := beq_eq_false_iff_ne.2 k1
      have hkc : (K == 2) = true := beq_iff_eq.2 k2
      clear k1 k2
      by_cases he : S.toList.isEmpty = true
      · by_cases h0 : 0 ≤ N
        · go_enter Try.func94, Try.ntmps94
          go_wp2_with fail
          go_ret
          exact ⟨ret_bool (by rw [HT.out]; simp [he, h0]), (Below.refl _ _).alloc (Nat.le_refl _) _⟩
        · go_enter Try.func94, Try.ntmps94
          go_wp2_with fail
          go_ret
          exact ⟨ret_bool (by rw [HT.out, decide_eq_false (show ¬ 0 ≤ N from by omega)]; simp), (Below.refl _ _).alloc (Nat.le_refl _) _⟩
      · have he' : S.toList.isEmpty = false := by simpa using he
        clear he
        go_enter Try.func94, Try.ntmps94
        go_wp2_with fail
        go_ret
        exact ⟨ret_bool (by rw [HT.out]; simp [he']), (Below.refl _ _).alloc (Nat.le_refl _) _⟩
    · have HT : Hid (Tk.okB ⟨K, N, S⟩ = (decide (N = 0) && Lx.signL S.data.toList)) := by show Tk.okB _ = _; unfold Tk.okB; rw [if_neg k1, if_neg k2]
      have hkb : (K == 1) = false := beq_eq_false_iff_ne.2 k1
      have hkc : (K == 2) = false := beq_eq_false_iff_ne.2 k2
      clear k1 k2
      by_cases n0 : N = 0
      · have hnb : (N == 0) = true := beq_iff_eq.2 n0
        have HR : Hid (Tk.okB ⟨K, N, S⟩ = Lx.signL S.data.toList) := by show Tk.okB _ = _; rw [HT.out, decide_eq_true n0, Bool.true_and]
        clear n0
        go_enter Try.func94, Try.ntmps94
        go_wp2_with (go_at_call 98; refine (isSign_any S _).mono ?_; rintro e w' ⟨rfl, rfl⟩)
        go_ret
        exact ⟨ret_bool HR.out.symm, (Below.refl _ _).alloc (Nat.le_refl _) _⟩
      · have hnb : (N == 0) = false := beq_eq_false_iff_ne.2 n0
        have HR : Hid (Tk.okB ⟨K, N, S⟩ = false) := by show Tk.okB _ = _; rw [HT.out, decide_eq_false n0, Bool.false_and]
        clear n0
        go_enter Try.func94, Try.ntmps94
        go_wp2_with fail
        go_ret
        exact ⟨ret_bool HR.out.symm, (Below.refl _ _).alloc (Nat.le_refl _) _⟩

end Go.Proofs.Ytplkbngnnaogkaa

namespace Go.Proofs.Ytplkbngnnaogkaa
open Go.RowKit

/- A list of tokens lies in memory as a slice. -/
def Tk.fits (t : Tk) : Prop := t.text.size ≤ maxLen
structure TokCells (w : World) (b off : Nat) (ts : List Tk) : Prop where
  lt : b < w.heap.size
  kind : ∀ i (h : i < ts.length), w.cell? ⟨b, off + i * 3, none⟩ = some (.int .i64 ts[i].kind)
  num : ∀ i (h : i < ts.length), w.cell? ⟨b, off + i * 3 + 1, none⟩ = some (.int .i64 ts[i].n)
  text : ∀ i (h : i < ts.length), w.cell? ⟨b, off + i * 3 + 2, none⟩ = some (.string ts[i].text)
  fits : ∀ i (h : i < ts.length), ts[i].fits
theorem TokCells.below {B : Nat} {w w' : World} {b off : Nat} {ts : List Tk} (h : TokCells w b off ts) (hb : Below B w w') (hB : b < B) : TokCells w' b off ts :=
  ⟨Nat.lt_of_lt_of_le h.lt hb.size, fun i hi => (hb.cell (p := ⟨b, off + i * 3, none⟩) hB).trans (h.kind i hi), fun i hi => (hb.cell (p := ⟨b, off + i * 3 + 1, none⟩) hB).trans (h.num i hi), fun i hi => (hb.cell (p := ⟨b, off + i * 3 + 2, none⟩) hB).trans (h.text i hi), h.fits⟩
def kindB (t : Tk) : Bool := decide (1 ≤ t.kind) && decide (t.kind ≤ 3)
def checkN (ts : List Tk) : Int := if ts.all kindB then (if ts.all Tk.okB then (if 4096 < ts.length then 2 else 0) else 1) else 4

def ToksAt (w : World) (a : Option Addr) (ts : List Tk) : Prop := ts = [] ∨ ∃ b off, a = some ⟨b, off, none⟩ ∧ TokCells w b off ts
theorem ToksAt.later {w w' : World} {a : Option Addr} {ts : List Tk} (h : ToksAt w a ts) (hb : Below w.heap.size w w') : ToksAt w' a ts := by
  rcases h with h | ⟨b, off, e, h⟩
  · exact Or.inl h
  · exact Or.inr ⟨b, off, e, h.below hb h.lt⟩
theorem ToksAt.place {w : World} {a : Option Addr} {ts : List Tk} (h : ToksAt w a ts) {k : Nat} (hk : k < ts.length) : ∃ b off, a = some ⟨b, off, none⟩ ∧ TokCells w b off ts := by
  rcases h with h | h
  · subst h; simp at hk
  · exact h
theorem all_snoc {α : Type} (ts : List α) (p : α → Bool) (k : Nat) (h : k < ts.length) : (ts.take (k + 1)).all p = ((ts.take k).all p && p ts[k]) := by
  rw [List.take_succ_eq_append_getElem h, List.all_append]; simp
theorem all_not {α : Type} (ts : List α) (p : α → Bool) (k : Nat) (h : k < ts.length) (hp : p ts[k] = false) : ts.all p = false := by
  rw [List.all_eq_false]; exact ⟨ts[k], List.getElem_mem _, by simp [hp]⟩
theorem checkN_kind {ts : List Tk} (h : ts.all kindB = false) : checkN ts = 4 := by unfold checkN; rw [h]; rfl
theorem checkN_form {ts : List Tk} (h : ts.all kindB = true) (h1 : ts.all Tk.okB = false) : checkN ts = 1 := by unfold checkN; rw [h, h1]; rfl
theorem checkN_many {ts : List Tk} (h : ts.all kindB = true) (h1 : ts.all Tk.okB = true) (h2 : 4096 < ts.length) : checkN ts = 2 := by unfold checkN; rw [h, h1, if_pos rfl, if_pos rfl, if_pos h2]
theorem checkN_ok {ts : List Tk} (h : ts.all kindB = true) (h1 : ts.all Tk.okB = true) (h2 : ¬ 4096 < ts.length) : checkN ts = 0 := by unfold checkN; rw [h, h1, if_pos rfl, if_pos rfl, if_neg h2]

set_option maxRecDepth 100000 in
set_option maxHeartbeats 800000 in
theorem Check_any (a : Option Addr) (cap : Nat) (ts : List Tk) (w : World) (hT : ToksAt w a ts) (hl : ts.length ≤ 1000000000000000) :
    Calls Try.prog 85 #[.slice a ts.length cap] w fun e w' => e = .returned (.int .i64 (checkN ts)) ∧ Below w.heap.size w w' := by
  have HT : Hid (ToksAt w a ts) := hT
  clear hT
  go_enter Try.func85, Try.ntmps85
  go_wp2_with fail
  go_loopw [9, 4] (fun i _ wr => ∃ k : Nat, k ≤ ts.length ∧ i = .int .i64 k ∧ (ts.take k).all kindB = true ∧ Below w.heap.size w wr) (fun i _ _ => ts.length - (intOf i).toNat)
  case atStart => exact ⟨0, Nat.zero_le _, rfl, rfl, Below.refl _ _⟩
  case round =>
    obtain ⟨k, hk, rfl, hall, hb⟩ := hrel
    have HA : Hid ((ts.take k).all kindB = true) := hall
    clear hall
    by_cases hlt : k < ts.length
    · obtain ⟨b, off, rfl, hT⟩ := (HT.out.later hb).place hlt
      have hc0 := hT.kind k hlt
      have hc1 := hT.num k hlt
      have hc2 := hT.text k hlt
      have hlb := hT.lt
      clear hT
      have HS : Hid ((ts.take (k + 1)).all kindB = ((ts.take k).all kindB && kindB ts[k])) := all_snoc ts kindB k hlt
      by_cases hkb : 1 ≤ ts[k].kind ∧ ts[k].kind ≤ 3
      · obtain ⟨hkb1, hkb3⟩ := hkb
        have HK : Hid (kindB ts[k] = true) := by show kindB ts[k] = true; simp [kindB, hkb1, hkb3]
        go_wp2_with fail
        go_roundw
        case rel => exact ⟨k + 1, by omega, by go_num, by rw [HS.out, HA.out, HK.out]; rfl, hb.alloc hb.size _⟩
        case measure => simp [intOf]; omega
      · have HF : Hid (checkN ts = 4) := checkN_kind (all_not ts kindB k hlt (by simp [kindB]; omega))
        by_cases hk1 : ts[k].kind < 1
        · clear hkb
          go_wp2_with fail
          go_ret
          exact ⟨ret_int HF.out.symm, hb.alloc hb.size _⟩
        · have hk3 : 3 < ts[k].kind := by omega
          clear hkb
          go_wp2_with fail
          go_ret
          exact ⟨ret_int HF.out.symm, hb.alloc hb.size _⟩
    · have HK : Hid (ts.all kindB = true) := by
        have := HA.out
        rw [List.take_of_length_le (by omega)] at this
        exact this
      clear HA
      go_wp2_with fail
      go_loopw [24, 6] (fun i _ wr => ∃ k : Nat, k ≤ ts.length ∧ i = .int .i64 k ∧ (ts.take k).all Tk.okB = true ∧ Below w.heap.size w wr) (fun i _ _ => ts.length - (intOf i).toNat)
      case atStart => exact ⟨0, Nat.zero_le _, rfl, rfl, hb⟩
      case round =>
        obtain ⟨k', hk', rfl, hall, hb1⟩ := hrel
        have HA : Hid ((ts.take k').all Tk.okB = true) := hall
        clear hall
        by_cases hlt' : k' < ts.length
        · obtain ⟨b, off, rfl, hT⟩ := (HT.out.later hb1).place hlt'
          have hc0 := hT.kind k' hlt'
          have hc1 := hT.num k' hlt'
          have hc2 := hT.text k' hlt'
          have hfit := hT.fits k' hlt'
          have hlb := hT.lt
          clear hT
          have HS : Hid ((ts.take (k' + 1)).all Tk.okB = ((ts.take k').all Tk.okB && Tk.okB ts[k'])) := all_snoc ts Tk.okB k' hlt'
          by_cases hkb : Tk.okB ts[k'] = true
          · go_wp2_with (go_at_call 94; refine (isToken_any ts[k'] _ hfit).mono ?_; rintro e w' ⟨rfl, hb2⟩)
            go_roundw
            case rel => exact ⟨k' + 1, by omega, by go_num, by rw [HS.out, HA.out]; simp [hkb], (hb1.alloc hb1.size _).trans (hb2.mono (by have := hb1.size; simp; omega))⟩
            case measure => simp [intOf]; omega
          · have hkb' : Tk.okB ts[k'] = false := by simpa using hkb
            have HF : Hid (checkN ts = 1) := checkN_form HK.out (all_not ts Tk.okB k' hlt' hkb')
            clear hkb
            go_wp2_with (go_at_call 94; refine (isToken_any ts[k'] _ hfit).mono ?_; rintro e w' ⟨rfl, hb2⟩)
            go_ret
            exact ⟨ret_int HF.out.symm, (hb1.alloc hb1.size _).trans (hb2.mono (by have := hb1.size; simp; omega))⟩
        · have HO : Hid (ts.all Tk.okB = true) := by
            have := HA.out
            rw [List.take_of_length_le (by omega)] at this
            exact this
          clear HA
          by_cases hm : 4096 < ts.length
          · have HF : Hid (checkN ts = 2) := checkN_many HK.out HO.out hm
            go_wp2_with fail
            go_ret
            exact ⟨ret_int HF.out.symm, hb1⟩
          · have HF : Hid (checkN ts = 0) := checkN_ok HK.out HO.out hm
            go_wp2_with fail
            go_ret
            exact ⟨ret_int HF.out.symm, hb1⟩

end Go.Proofs.Ytplkbngnnaogkaa
