/-
  The text of a right list of tokens: the document's answer to it is the tokens with one blank between each two.
-/
import Derived.Test.YtfiejjaocfcheaaDoorList
namespace Go.Proofs.YtfiejjaocfcheaaDoor
open Go.RowKit

def txtL (t : Tk) : List UInt8 := if t.kind = 2 then Lib.decDigits t.n.toNat else t.text.data.toList
theorem txt_eq (t : Tk) : t.txt = strOf (txtL t) := by
  unfold Tk.txt txtL; split
  · rfl
  · exact (strOf_back _).symm
def showL : List Tk → List UInt8
  | [] => []
  | t :: r => txtL t ++ r.flatMap (fun t => 32 :: txtL t)
theorem showL_snoc (l : List Tk) (t : Tk) : showL (l ++ [t]) = showL l ++ (if l.length = 0 then [] else [32]) ++ txtL t := by
  cases l with
  | nil => simp [showL]
  | cons x r => simp [showL, List.flatMap_append]
def Right (ts : List Tk) : Prop := ts.all kindB = true ∧ ts.all Tk.okB = true
theorem Right.get {ts : List Tk} (h : Right ts) (k : Nat) (hk : k < ts.length) : kindB ts[k] = true ∧ Tk.okB ts[k] = true :=
  ⟨List.all_eq_true.1 h.1 _ (List.getElem_mem _), List.all_eq_true.1 h.2 _ (List.getElem_mem _)⟩
theorem ok_inB {t : Tk} (h : Tk.okB t = true) : t.inB := by
  intro hk
  unfold Tk.okB at h
  rw [if_neg (by omega), if_pos hk] at h
  simp at h
  exact h.2
theorem name_len {l : List UInt8} (h : Lx.nameB l = true) : l.length ≤ 8 := by
  unfold Lx.nameB at h; simp at h; exact h.1.2
theorem sign_len {l : List UInt8} (h : Lx.signL l = true) : l.length = 1 := by
  match l with
  | [_] => rfl
  | [] => simp [Lx.signL] at h
  | _ :: _ :: _ => simp [Lx.signL] at h
theorem txt_len {t : Tk} (h : Tk.okB t = true) : (txtL t).length ≤ 13 := by
  unfold txtL
  by_cases k2 : t.kind = 2
  · rw [if_pos k2]
    have := ok_inB h k2
    exact Lx.dec_len_tok 12 _ (by omega)
  · rw [if_neg k2]
    unfold Tk.okB at h
    by_cases k1 : t.kind = 1
    · rw [if_pos k1] at h; simp at h; have := name_len h.2; omega
    · rw [if_neg k1, if_neg k2] at h; simp at h; have := sign_len h.2; omega
theorem txt_size {t : Tk} (h : Tk.okB t = true) : t.txt.size ≤ 13 := by rw [txt_eq, strOf_size]; exact txt_len h
theorem show_take_snoc (ts : List Tk) (k : Nat) (hk : k < ts.length) : showL (ts.take (k + 1)) = showL (ts.take k) ++ (if k = 0 then [] else [32]) ++ txtL ts[k] := by
  rw [List.take_succ_eq_append_getElem hk, showL_snoc, List.length_take, Nat.min_eq_left (by omega)]
theorem show_len {ts : List Tk} (h : Right ts) : ∀ k, k ≤ ts.length → (showL (ts.take k)).length ≤ 14 * k := by
  intro k
  induction k with
  | zero => intro _; simp [showL]
  | succ k ih =>
    intro hk
    rw [show_take_snoc ts k (by omega)]
    have h1 := ih (by omega)
    have h2 := txt_len (h.get k (by omega)).2
    rw [List.length_append, List.length_append]
    split <;> simp <;> omega
theorem blank_eq : (⟨#[32]⟩ : ByteArray) = strOf [32] := rfl
theorem show_step_first (ts : List Tk) (k : Nat) (hk : k < ts.length) (h0 : k = 0) : strOf (showL (ts.take k)) ++ ts[k].txt = strOf (showL (ts.take (k + 1))) := by
  rw [txt_eq, strOf_append, show_take_snoc ts k hk, if_pos h0]; simp
theorem show_step_next (ts : List Tk) (k : Nat) (hk : k < ts.length) (h0 : 0 < k) : strOf (showL (ts.take k)) ++ ⟨#[32]⟩ ++ ts[k].txt = strOf (showL (ts.take (k + 1))) := by
  rw [txt_eq, blank_eq, strOf_append, strOf_append, show_take_snoc ts k hk, if_neg (by omega)]

set_option maxHeartbeats 800000 in
theorem ToksText_any (a : Option Addr) (cap : Nat) (ts : List Tk) (w : World) (hT : ToksAt w a ts) (hl : ts.length ≤ 4096) (hR : Right ts) :
    Calls Tryd.prog 9 #[.slice a ts.length cap] w fun e w' => e = .returned (.string (strOf (showL ts))) ∧ Below w.heap.size w w' := by
  have HT : Hid (ToksAt w a ts) := hT
  have HR : Hid (Right ts) := hR
  clear hT hR
  go_enter Tryd.func9, Tryd.ntmps9
  go_wp2_with fail
  go_loopw [4, 3] (fun i s wr => ∃ k : Nat, k ≤ ts.length ∧ i = .int .i64 k ∧ s = .string (strOf (showL (ts.take k))) ∧ Below w.heap.size w wr) (fun i _ _ => ts.length - (intOf i).toNat)
  case atStart => exact ⟨0, Nat.zero_le _, rfl, rfl, Below.refl _ _⟩
  case round =>
    obtain ⟨k, hk, rfl, rfl, hb⟩ := hrel
    by_cases hlt : k < ts.length
    · obtain ⟨b, off, rfl, hT⟩ := (HT.out.later hb).place hlt
      have hc0 := hT.kind k hlt
      have hc1 := hT.num k hlt
      have hc2 := hT.text k hlt
      clear hT
      have hin := HR.out.get k hlt
      have HI : Hid (ts[k].inB) := ok_inB hin.2
      have hts := txt_size hin.2
      clear hin
      have hss : (strOf (showL (ts.take k))).size ≤ 60000 := by rw [strOf_size]; have := show_len HR.out k hk; omega
      by_cases h0 : k = 0
      · have HS : Hid (strOf (showL (ts.take k)) ++ ts[k].txt = strOf (showL (ts.take (k + 1)))) := show_step_first ts k hlt h0
        have h0' : ¬ 0 < k := by omega
        clear h0
        generalize strOf (showL (ts.take k)) = S at *
        go_wp2_with fail
        refine (TokText_any ts[k] _ HI.out).mono ?_
        rintro e w' ⟨rfl, hb2⟩
        go_wp2_with fail
        go_roundw
        case rel => exact ⟨k + 1, by omega, by go_num, by rw [HS.out], hb.trans (hb2.mono hb.size)⟩
        case measure => simp [intOf]; omega
      · have h0' : 0 < k := by omega
        have HS : Hid (strOf (showL (ts.take k)) ++ ⟨#[32]⟩ ++ ts[k].txt = strOf (showL (ts.take (k + 1)))) := show_step_next ts k hlt h0'
        clear h0
        generalize strOf (showL (ts.take k)) = S at *
        go_wp2_with fail
        refine (TokText_any ts[k] _ HI.out).mono ?_
        rintro e w' ⟨rfl, hb2⟩
        go_wp2_with fail
        go_roundw
        case rel => exact ⟨k + 1, by omega, by go_num, by rw [HS.out], hb.trans (hb2.mono hb.size)⟩
        case measure => simp [intOf]; omega
    · have HF : Hid (showL (ts.take k) = showL ts) := by show showL _ = _; rw [List.take_of_length_le (by omega)]
      go_wp2_with fail
      go_ret
      exact ⟨ret_str (by rw [HF.out]), hb⟩

end Go.Proofs.YtfiejjaocfcheaaDoor
