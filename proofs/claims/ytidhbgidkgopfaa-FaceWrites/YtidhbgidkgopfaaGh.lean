/-
  The law's counted face.
-/
import Derived.Test.YtidhbgidkgopfaaGg
namespace Go.Proofs.Ytidhbgidkgopfaa
open Go.RowKit Go.Shelf
set_option maxRecDepth 100000

def cntF : Fc := ⟨⟨#[99, 110, 116]⟩, [⟨1, 3, 0, ⟨#[107]⟩⟩, ⟨2, 0, 0, ⟨#[115, 117, 109]⟩⟩, ⟨3, 4, 1, ⟨#[116]⟩⟩, ⟨4, 1, 0, ⟨#[100, 111, 119, 110]⟩⟩]⟩
theorem cnt_ok : chkF cntF = 0 := by decide
theorem cnt_len : (faceB cntF).length = 86 := by decide

set_option maxHeartbeats 1600000 in
theorem counted_any (w : World) :
    Calls Try.prog 26 #[] w fun e w' => ∃ ad cap, e = .returned (.agg #[.string cntF.name, .slice ad cntF.items.length cap]) ∧ ItemsAt w' ad cntF.items ∧ Below w.heap.size w w' := by
  go_enter Try.func26, Try.ntmps26
  go_wp2_with fail
  obtain ⟨W, hW⟩ : ∃ W, W = (w.alloc (.cells #[.string ⟨#[99, 110, 116]⟩, .slice (some ⟨w.heap.size + 1, 0, none⟩) 4 4] 24)).alloc (.cells (cellsL cntF.items).toArray 40) := ⟨_, rfl⟩
  have hB : Below w.heap.size w W := by rw [hW]; exact ((Below.refl _ _).alloc (Nat.le_refl _) _).alloc (by simp) _
  have hX := (Bf.new w 24 (.string ⟨#[99, 110, 116]⟩) (.slice (some ⟨w.heap.size + 1, 0, none⟩) 4 4)).alloc (.cells (cellsL cntF.items).toArray 40)
  rw [← hW] at hX
  have hlt : w.heap.size + 1 < W.heap.size := by rw [hW]; simp
  have hn : W.heap[w.heap.size + 1]? = some (.cells (cellsL cntF.items).toArray 40) := by
    rw [hW]
    have := heap_alloc_new (w.alloc (.cells #[.string ⟨#[99, 110, 116]⟩, .slice (some ⟨w.heap.size + 1, 0, none⟩) 4 4] 24)) (.cells (cellsL cntF.items).toArray 40)
    simpa using this
  have hc : ∀ j u, (cellsL cntF.items)[j]? = some u → W.cell? ⟨w.heap.size + 1, j, none⟩ = some u := fun j u hj => by
    simp only [World.cell?, hn]
    simpa using hj
  have hI : ItemsAt W (some ⟨w.heap.size + 1, 0, none⟩) cntF.items := Or.inr ⟨w.heap.size + 1, 0, rfl, hlt, fun i hi => by rw [Nat.zero_add]; exact hc _ _ (cellsL_get _ i hi).1, fun i hi => by rw [Nat.zero_add]; exact hc _ _ (cellsL_get _ i hi).2.1, fun i hi => by rw [Nat.zero_add]; exact hc _ _ (cellsL_get _ i hi).2.2.1, fun i hi => by rw [Nat.zero_add]; exact hc _ _ (cellsL_get _ i hi).2.2.2⟩
  refine bodyPost_ret (v := .agg #[.string ⟨#[99, 110, 116]⟩, .slice (some ⟨w.heap.size + 1, 0, none⟩) 4 4]) ?_ rfl ⟨some ⟨w.heap.size + 1, 0, none⟩, 4, rfl, ?_, ?_⟩
  · simp [results, Try.results26, go_sem]
  · rw [hW] at hI; exact hI
  · rw [hW] at hB; exact hB

end Go.Proofs.Ytidhbgidkgopfaa
