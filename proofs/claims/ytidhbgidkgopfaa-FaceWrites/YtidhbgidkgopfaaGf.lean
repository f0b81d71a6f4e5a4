/-
  A right face's bytes are read as that face; what Read takes is the bytes of what it tells.
-/
import Derived.Test.YtidhbgidkgopfaaGe
namespace Go.Proofs.Ytidhbgidkgopfaa
open Go.RowKit
set_option maxRecDepth 100000

theorem pFace_there (f : Fc) (r : List UInt8) (hn : f.name.size ≤ 255) (hl : f.items.length ≤ 255) (h : ∀ i ∈ f.items, fitI i) : pFace (faceB f ++ r) = some (f, r) := by
  obtain ⟨nm, xs⟩ := f
  simp only at *
  unfold pFace faceB
  simp only [List.append_assoc, List.cons_append]
  rw [pText_there nm _ hn]
  simp only [Option.bind_some]
  rw [pByte_cons, byteOf_nat, Int.emod_eq_of_lt (by omega) (by omega)]
  simp only [Option.bind_some, Int.toNat_natCast]
  rw [pItems_there xs r h]
  simp only [Option.bind_some, strOf_back]
theorem wOk_back {l : List UInt8} {f : Fc} (h : wOk l = some f) : l = faceB f := by
  unfold wOk at h
  split at h
  · rename_i g hg
    cases h
    have := pFace_back hg
    rwa [List.append_nil] at this
  · cases h
theorem itemOk_fit {i : It} (h : itemOk i = true) : fitI i := by
  have hs := item_name h
  unfold itemOk at h
  simp only [Bool.and_eq_true] at h
  obtain ⟨_, h2⟩ := h
  unfold numOkB at h2
  unfold fitI
  split at h2
  · simp at h2; omega
  · split at h2
    · simp at h2; omega
    · split at h2
      · simp at h2; omega
      · split at h2
        · simp at h2; omega
        · cases h2
theorem wOk_there {f : Fc} (h : chkF f = 0) : wOk (faceB f) = some f := by
  obtain ⟨h1, h2, _, h4⟩ := chk_zero h
  have h5 := nameOk_size h2
  have := pFace_there f [] (by omega) (by omega) (fun i hi => itemOk_fit (List.all_eq_true.1 h4 i hi))
  rw [List.append_nil] at this
  unfold wOk
  rw [this]
theorem faceB_len {f : Fc} (h : chkF f = 0) : (faceB f).length ≤ 426 := by rw [← soFar_all]; exact soFar_len h _
/- what Read takes: the bytes of right faces, and nothing else -/
theorem rdF_there {f : Fc} (h : chkF f = 0) : rdF (faceB f) = (f, 0) := by
  have := faceB_len h
  unfold rdF
  rw [if_neg (by omega), wOk_there h]
  exact if_pos h
theorem rdF_back {l : List UInt8} (h : (rdF l).2 = 0) : chkF (rdF l).1 = 0 ∧ faceB (rdF l).1 = l := by
  unfold rdF at h ⊢
  split at h
  · cases h
  · rename_i hl
    rw [if_neg hl]
    cases hw : wOk l with
    | none => rw [hw] at h; cases h
    | some f =>
      rw [hw] at h
      simp only at h ⊢
      split at h
      · rename_i hc
        rw [if_pos hc]
        exact ⟨hc, (wOk_back hw).symm⟩
      · cases h

end Go.Proofs.Ytidhbgidkgopfaa
