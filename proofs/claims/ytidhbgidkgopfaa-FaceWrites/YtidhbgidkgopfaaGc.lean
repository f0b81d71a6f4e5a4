/-
  strings.Clone: the premise of the reader's texts.
-/
import Derived.Test.YtidhbgidkgopfaaGa
import Derived.Test.YtidhbgidkgopfaaSh
namespace Go.Proofs.Ytidhbgidkgopfaa
open Go.RowKit Go.Shelf
set_option maxRecDepth 100000

theorem cloneOk : CloneOk := fun s W hs => by
  have HC : Hid (Calls Try.prog 41 #[.string s] W fun e w' => e = .returned (.string s) ∧ Below W.heap.size W w') := Try.stringslite_Clone s W (by omega)
  go_enter Try.func37, Try.ntmps37
  go_wp2_with (go_at_call 41; refine HC.out.mono ?_; rintro e w' ⟨rfl, hb⟩; have HB := hid hb; clear hb)
  go_returns
  exact ⟨rfl, HB.out⟩

end Go.Proofs.Ytidhbgidkgopfaa
