/-
  What is peeped is right, and does the same: said of what Check and Run answer.
-/
import Derived.Test.YtpahhhhfhnpmjaaRa
import Derived.Test.YtpahhhhfhnpmjaaMach
namespace Go.Proofs.Ytpahhhhfhnpmjaa
open Go.RowKit Go.Shelf
set_option maxRecDepth 100000

theorem peep_len (code : List Mc.Ins) : (Mc.peep code).length = code.length := Mc.peepTo_len _ _ _
theorem kind_op : Mc.Kind (fun i => opB i = true) := ⟨rfl, fun _ _ _ _ => rfl, fun _ => rfl, fun _ _ => rfl, fun _ _ h _ => h⟩
theorem fit_wrap (n : Int) : fit64 (wrap64 n) := by unfold fit64 wrap64; omega
theorem fit_truth (b : Bool) : fit64 (Mc.truth b) := by cases b <;> (unfold fit64 Mc.truth; decide)
theorem kind_fit : Mc.Kind InsFit := by
  refine ⟨⟨by unfold fit64; decide, by unfold fit64; decide⟩, fun op a b h => ⟨?_, by show fit64 0; unfold fit64; decide⟩, fun b => ⟨fit_truth b, by show fit64 0; unfold fit64; decide⟩, fun x h => ⟨h.1, by show fit64 0; unfold fit64; decide⟩, fun x y h k => ⟨k.1, h.2⟩⟩
  show fit64 (Mc.known op a b)
  unfold Mc.foldsB at h
  simp only [Bool.or_eq_true, decide_eq_true_eq] at h
  unfold Mc.known Mc.reck
  rcases h with (((h | h) | h) | h) | h <;> subst h <;> simp <;> first | exact fit_wrap _ | exact fit_truth _
theorem peep_check {code : List Mc.Ins} {d : Int} (h : checkI code d = 0) : checkI (Mc.peep code) d = 0 := by
  obtain ⟨h0, h1, h2, h3, h4⟩ := check_zero h
  unfold checkI
  rw [if_neg (by rw [peep_len]; omega), if_pos (List.all_eq_true.2 (Mc.AllI.peep kind_op (Mc.AllI.of (List.all_eq_true.1 h2))).mem), if_neg (by omega)]
theorem peep_fit {code : List Mc.Ins} (h : ∀ i ∈ code, InsFit i) : ∀ i ∈ Mc.peep code, InsFit i := (Mc.AllI.peep kind_fit (Mc.AllI.of h)).mem
theorem peep_err {code : List Mc.Ins} {d : Int} (h : checkI code d = 0) (n : Nat) (t s : Int) : errR (Mc.peep code) d n t s = errR code d n t s := by
  unfold errR
  rw [h, peep_check h]
theorem ans_err (code : List Mc.Ins) (d : Int) (inp : List Int) (t s : Int) : (ansR code d inp t s).err = errR code d inp.length t s := by
  unfold ansR
  split
  · rename_i h; exact h.symm
  · rfl
theorem peep_ans {code : List Mc.Ins} {d : Int} (h : checkI code d = 0) (inp : List Int) (t s : Int) (he : (ansR code d inp t s).err = 0) (h6 : (ansR code d inp t s).en ≠ 6) (h7 : (ansR code d inp t s).en ≠ 7) :
    (ansR (Mc.peep code) d inp t s).en = (ansR code d inp t s).en ∧ (ansR (Mc.peep code) d inp t s).out = (ansR code d inp t s).out ∧ (ansR (Mc.peep code) d inp t s).data = (ansR code d inp t s).data ∧ (ansR (Mc.peep code) d inp t s).ticks = (ansR code d inp t s).ticks ∧ (ansR (Mc.peep code) d inp t s).steps ≤ (ansR code d inp t s).steps := by
  rw [ans_err] at he
  have he' : errR (Mc.peep code) d inp.length t s = 0 := by rw [peep_err h]; exact he
  unfold ansR at h6 h7 ⊢
  rw [if_pos he] at h6 h7
  rw [if_pos he, if_pos he']
  have hs := (errR_zero he).2.2.2.2.2.1
  exact Mc.peep_alike code t s (s.toNat + 1) (s.toNat + 1) (startS d.toNat inp) ⟨rfl, rfl, rfl, rfl⟩ hs (by omega) (by omega) h6 h7

end Go.Proofs.Ytpahhhhfhnpmjaa
