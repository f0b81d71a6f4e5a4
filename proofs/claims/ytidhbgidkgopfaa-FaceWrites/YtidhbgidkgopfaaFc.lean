/-
  The program's look at a face: the items' names, whether two are one, Check.
-/
import Derived.Test.YtidhbgidkgopfaaFb
import Derived.Maps.OwnSet
import Derived.Maps.AppendAt
import Derived.Deep.AppendLies
namespace Go.Proofs.Ytidhbgidkgopfaa
open Go.RowKit Go.Shelf Go.Maps
set_option maxRecDepth 100000

theorem info9 : (Try.prog.info? 9).map (fun i => (i.zero, i.size, i.bytes)) = some (some (.string ⟨#[]⟩), 1, 16) := by kernel_rfl
def strs (l : List It) : List Value := l.map (fun i => .string i.name)
theorem strs_snoc (l : List It) (i : It) : strs l ++ [.string i.name] = strs (l ++ [i]) := by simp [strs]
theorem len_snoc {α : Type} (l : List α) (n : α) : (l ++ [n]).length = l.length + 1 := by simp
theorem take_succ {α : Type} (l : List α) (k : Nat) (h : k < l.length) : l.take (k + 1) = l.take k ++ [l[k]] := List.take_succ_eq_append_getElem h
theorem take_all {α : Type} (l : List α) : l.take l.length = l := List.take_of_length_le (Nat.le_refl _)

theorem ownsRow_later {W W' : World} {B : Nat} {e : TypeId} {size : Nat} {v : Value} {n : Nat} {xs : List Value} (h : W.ownsRow B e size v n xs) (hb : Below W.heap.size W W') : W'.ownsRow B e size v n xs := by
  refine ⟨h.1, ?_⟩
  rcases h.2 with h1 | ⟨g, cap, cur, hv, hB, hg, hr⟩
  · exact Or.inl h1
  · have hlt : g < W.heap.size := by
      rcases Nat.lt_or_ge g W.heap.size with h' | h'
      · exact h'
      · simp [Array.getElem?_eq_none h'] at hg
    exact Or.inr ⟨g, cap, cur, hv, hB, (hb.block g hlt).trans hg, hr⟩

theorem cell_one_at {w : World} {x : Value} {t : TypeId} {n : Nat} (hn : n = w.heap.size) : ∀ j u, [x][j]? = some u → (w.alloc (.cells #[x] t)).cell? ((⟨n, 0, none⟩ : Addr).add j) = some u := by
  subst hn
  exact cell_one_new _ _ _

set_option maxHeartbeats 800000 in
theorem itemNames_any (a : Option Addr) (cap : Nat) (l : List It) (w : World) (hT : ItemsAt w a l) (hl : l.length ≤ 1000000) :
    Calls Try.prog 32 #[.slice a l.length cap] w fun e w' => ∃ v, e = .returned v ∧ w'.ownsRow w.heap.size 9 1 v l.length (strs l) ∧ Below w.heap.size w w' := by
  obtain ⟨i0, hi, hz0, hz1, hz2⟩ := info_parts info9
  have HT := hid hT
  clear hT
  go_enter Try.func32, Try.ntmps32
  go_wp2_with fail
  go_loopw [3, 5, 8] (fun v _ i wr => ∃ k : Nat, k ≤ l.length ∧ i = .int .i64 k ∧ wr.ownsRow w.heap.size 9 1 v k (strs (l.take k)) ∧ Below w.heap.size w wr) (fun _ _ i _ => l.length - (intOf i).toNat)
  case atStart => exact ⟨0, Nat.zero_le _, rfl, World.ownsRow_nil _ _ _ _, Below.refl _ _⟩
  case round =>
    obtain ⟨k, hk, rfl, hown, hb⟩ := hrel
    have HO := hid hown
    have HB := hid hb
    by_cases hlt : k < l.length
    · obtain ⟨b, off, rfl, hbl, c0, c1, c2, c3⟩ := (HT.out.later hb).place hlt
      have HS : Hid (strs (l.take k) ++ [.string l[k].name] = strs (l.take (k + 1))) := by rw [take_succ l k hlt]; exact strs_snoc _ _
      clear hown hb
      go_wp2_with (at_builtin; refine wpList_append_lies _ rfl _ _ _ rfl w.heap.size 9 i0 _ 1 16 Try.underlying43 hi hz0 hz1 hz2 rfl (by omega) _ k (strs (l.take k)) rfl (ownsRow_later HO.out (((Below.refl _ _).alloc (Nat.le_refl _) _).alloc (by simp) _)) ⟨_, 0, none⟩ 1 1 [.string l[k].name] rfl rfl (cell_one_at (by simp)) (by simp; rfl) (by omega) (by unfold maxLen; omega) (by omega) (by have := HB.out.size; simp; omega) _ rfl ?_; intro q2 cap2 w1 hown1 hg hat hlt2; have HO1 := hid hown1; have HG := hid hg; clear hown1 hg hat)
      go_roundw
      case rel => exact ⟨k + 1, by omega, by go_num, by rw [← HS.out]; exact HO1.out, ((HB.out.alloc HB.out.size _).alloc (by have := HB.out.size; simp; omega) _).grown HG.out (by have := HB.out.size; simp; omega) (fun j hj => (HO.out.lt j hj).1)⟩
      case measure => simp [intOf]; omega
    · obtain rfl : k = l.length := by omega
      clear hown hb
      go_wp2_with fail
      go_ret
      exact ⟨_, rfl, by have := HO.out; rw [take_all] at this; exact this, HB.out⟩

end Go.Proofs.Ytidhbgidkgopfaa
