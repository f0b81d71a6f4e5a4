/-
  FaceWrites, all cases.
-/
import Derived.Test.YtidhbgidkgopfaaGo
namespace Go.Proofs.Ytidhbgidkgopfaa
open Go.RowKit Go.Shelf
set_option maxRecDepth 100000

theorem FaceWrites_c (f : Fc) (a : Option Addr) (cap : Nat) (l : List UInt8) (w : World) (hT : ItemsAt w a f.items) (hl : f.items.length ≤ 1000000000000000) (hs : f.name.size ≤ maxLen) (hf : AllFit f.items) (hL : l.length ≤ 1000000000000000) :
    Calls Try.prog 3 #[.agg #[.string f.name, .slice a f.items.length cap], .string (strOf l)] w fun e w' => e = .returned (.bool true) ∧ Below w.heap.size w w' := by
  have HW0 := fun W (hb : Below w.heap.size w W) => Write_any f a cap W (hT.later hb) hl hs hf
  have HK0 := fun W (hb : Below w.heap.size w W) => CheckFace_any f a cap W (hT.later hb) hl hs hf
  have hz := strOf_size l
  have HR : ∀ W, RdSays (strOf l) (rdF l).1.name (rdF l).1.items (rdF l).2 W := fun W => Read_of l (rdF l) rfl hL W
  by_cases hbig : 32768 < l.length
  · have hr : rdF l = (noF, 2) := if_pos hbig
    rw [hr] at HR
    have HS : ∀ W, SmSays noF.name noF.items W := fun W a a' cap cap' h1 h2 => SameFaces_same noF a a' cap cap' W h1 h2 (by decide)
    by_cases hc : chkF f = 0
    · rw [hc, if_pos rfl] at HW0
      rw [hc] at HK0
      exact writes_big0 f.name f.items a cap _ (strOf l) (by omega) noF.name noF.items rfl rfl w HW0 HK0 (fun W hb => FaceBytes_any f a cap W (hT.later hb) hc) HR HS
    · rw [if_neg hc] at HW0
      exact writes_big1 f.name f.items a cap _ hc (strOf l) (by omega) noF.name noF.items rfl rfl w HW0 HK0 HR HS
  · obtain ⟨e1, e2⟩ := frAns_rdF l hbig
    have HFr : ∀ W, FrSays (strOf l) (rdF l).1.name (rdF l).1.items (frAns l).2 W := fun W => by rw [← e1]; exact FaceFrom_any l W (by omega)
    have HS : ∀ W, SmSays (rdF l).1.name (rdF l).1.items W := fun W a a' cap cap' h1 h2 => SameFaces_same (rdF l).1 a a' cap cap' W h1 h2 (by
      rw [← e1]
      unfold frAns
      split
      · have := (frFace_fit l).1; show (frFace l).items.length ≤ _; omega
      · decide)
    cases hok : (frAns l).2 with
    | true =>
      rw [hok] at HFr e2
      simp only [if_true] at e2
      rw [e2] at HR
      by_cases hc : chkF f = 0
      · rw [hc, if_pos rfl] at HW0
        rw [hc] at HK0
        exact writes_ok0 f.name f.items a cap _ (strOf l) (by omega) _ _ w HW0 HK0 (fun W hb => FaceBytes_any f a cap W (hT.later hb) hc) HR HFr HS
      · rw [if_neg hc] at HW0
        exact writes_ok1 f.name f.items a cap _ hc (strOf l) (by omega) _ _ w HW0 HK0 HR HFr HS
    | false =>
      rw [hok] at HFr e2
      simp only [Bool.false_eq_true, if_false] at e2
      rw [e2] at HR
      by_cases hc : chkF f = 0
      · rw [hc, if_pos rfl] at HW0
        rw [hc] at HK0
        exact writes_no0 f.name f.items a cap _ (strOf l) (by omega) _ _ w HW0 HK0 (fun W hb => FaceBytes_any f a cap W (hT.later hb) hc) HR HFr HS
      · rw [if_neg hc] at HW0
        exact writes_no1 f.name f.items a cap _ hc (strOf l) (by omega) _ _ w HW0 HK0 HR HFr HS

end Go.Proofs.Ytidhbgidkgopfaa
