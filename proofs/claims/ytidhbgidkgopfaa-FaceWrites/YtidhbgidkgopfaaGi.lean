/-
  What the law begins with, as mathematics.
-/
import Derived.Test.YtidhbgidkgopfaaGh
import Derived.Test.YtidhbgidkgopfaaGc
namespace Go.Proofs.Ytidhbgidkgopfaa
open Go.RowKit Go.Shelf
set_option maxRecDepth 100000

theorem rdF_more {f : Fc} (h : chkF f = 0) (c : UInt8) : rdF (faceB f ++ [c]) = (noF, 1) := by
  obtain ⟨h1, h2, _, h4⟩ := chk_zero h
  have h5 := nameOk_size h2
  have h6 := faceB_len h
  have h7 := pFace_there f [c] (by omega) (by omega) (fun i hi => itemOk_fit (List.all_eq_true.1 h4 i hi))
  have h8 : wOk (faceB f ++ [c]) = none := by unfold wOk; rw [h7]
  unfold rdF
  rw [if_neg (by rw [List.length_append]; simp only [List.length_cons, List.length_nil]; omega), h8]
theorem Read_of (l : List UInt8) (r : Fc × Int) (h : rdF l = r) (hl : l.length ≤ 1000000000000000) (w : World) :
    Calls Try.prog 8 #[.string (strOf l)] w fun e w' => Below w.heap.size w w' ∧ ∃ ad cap, e = .returned (.tuple #[.agg #[.string r.1.name, .slice ad r.1.items.length cap], .int .i64 r.2]) ∧ ItemsAt w' ad r.1.items :=
  (Read_any cloneOk l w hl).mono fun e w' q => by
    obtain ⟨hb, v, he, hi⟩ := q
    rw [h] at he hi
    obtain ⟨ad, cap, rfl, hA⟩ := hi.at
    exact ⟨hb, ad, cap, he, hA⟩

end Go.Proofs.Ytidhbgidkgopfaa
