/-
  What the law begins with: the calls that it makes, each at any face that is right.
-/
import Derived.Test.YtidhbgidkgopfaaGi
namespace Go.Proofs.Ytidhbgidkgopfaa
open Go.RowKit Go.Shelf
set_option maxRecDepth 100000

theorem right_len {f : Fc} (h : chkF f = 0) : f.items.length ≤ 16 := (chk_zero h).1
theorem right_name {f : Fc} (h : chkF f = 0) : f.name.size ≤ 8 := nameOk_size (chk_zero h).2.1
theorem right_items {f : Fc} (h : chkF f = 0) : ∀ i ∈ f.items, i.name.size ≤ 8 := fun i hi => item_name (List.all_eq_true.1 (chk_zero h).2.2.2 i hi)

theorem bg_write {f : Fc} (h : chkF f = 0) (W : World) (a : Option Addr) (cap : Nat) (hT : ItemsAt W a f.items) :
    Calls Try.prog 5 #[.agg #[.string f.name, .slice a f.items.length cap]] W fun e w' => e = .returned (.tuple #[.string (strOf (faceB f)), .int .i64 0]) ∧ Below W.heap.size W w' := by
  have := Write_any f a cap W hT (by have := right_len h; omega) (by have := right_name h; unfold maxLen; omega) (fun i hi => by have := right_items h i hi; unfold maxLen; omega)
  rw [h, if_pos rfl] at this
  exact this
theorem bg_read {f : Fc} (h : chkF f = 0) (W : World) :
    Calls Try.prog 8 #[.string (strOf (faceB f))] W fun e w' => Below W.heap.size W w' ∧ ∃ ad cap, e = .returned (.tuple #[.agg #[.string f.name, .slice ad f.items.length cap], .int .i64 0]) ∧ ItemsAt w' ad f.items :=
  Read_of (faceB f) (f, 0) (rdF_there h) (by have := faceB_len h; omega) W
theorem bg_more {f : Fc} (h : chkF f = 0) (W : World) :
    Calls Try.prog 8 #[.string (strOf (faceB f) ++ ⟨#[120]⟩)] W fun e w' => Below W.heap.size W w' ∧ ∃ ad cap, e = .returned (.tuple #[.agg #[.string ⟨#[]⟩, .slice ad 0 cap], .int .i64 1]) := by
  rw [show strOf (faceB f) ++ ⟨#[120]⟩ = strOf (faceB f ++ [120]) from strOf_append _ [120]]
  exact (Read_of (faceB f ++ [120]) (noF, 1) (rdF_more h 120) (by have := faceB_len h; rw [List.length_append]; simp only [List.length_cons, List.length_nil]; omega) W).mono fun e w' ⟨h1, ad, cap, h2, _⟩ => ⟨h1, ad, cap, h2⟩
theorem bg_same {f : Fc} (h : chkF f = 0) (W : World) (a a' : Option Addr) (cap cap' : Nat) (hA : ItemsAt W a f.items) (hA' : ItemsAt W a' f.items) :
    Calls Try.prog 10 #[.agg #[.string f.name, .slice a f.items.length cap], .agg #[.string f.name, .slice a' f.items.length cap']] W fun e w' => e = .returned (.bool true) ∧ Below W.heap.size W w' :=
  SameFaces_same f a a' cap cap' W hA hA' (by have := right_len h; omega)

end Go.Proofs.Ytidhbgidkgopfaa
