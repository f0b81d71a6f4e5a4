/-
  The program's lists of items: the loop.
-/
import Derived.Test.YtidhbgidkgopfaaFs
namespace Go.Proofs.Ytidhbgidkgopfaa
open Go.RowKit Go.Shelf
set_option maxRecDepth 100000

def LEnd (B rb : Nat) (w : World) (r : Option (List It × List UInt8)) (e : Ending) (w' : World) : Prop :=
  w.grownBy w' (some rb) ∧ ((r = none ∧ e = .panicked shortP) ∨ ∃ x l v, r = some (x, l) ∧ e = .returned v ∧ IRow B w' v x ∧ Rdr w' rb l)

set_option maxHeartbeats 1600000 in
theorem List_any (hcl : CloneOk) (rb n : Nat) (l : List UInt8) (w : World) (h : Rdr w rb l) (hl : l.length ≤ 1000000000000000) (hn : n ≤ 255) :
    Calls Try.prog 23 #[.pointer (some ⟨rb, 0, none⟩), .int .i64 n, .func (.func 25) #[] #[]] w fun e w' => LEnd w.heap.size rb w (pItems n l) e w' := by
  obtain ⟨i0, hi, hz0, hz1, hz2⟩ := info_parts info40
  have HR := hid h
  have hlt := h.lt
  obtain ⟨R, hR⟩ : ∃ R, pItems n l = R := ⟨_, rfl⟩
  have HE : Hid (pAcc [] n l = R) := by rw [← hR]; show pAcc [] n l = _; simp [pAcc]
  rw [hR]
  clear h hR
  go_enter Try.func23, Try.ntmps23
  go_wp2_with fail
  go_loopw [7, 9] (fun u i wr => ∃ (k : Nat) (acc : List It) (t : List UInt8), k ≤ n ∧ i = .int .i64 k ∧ acc.length = k ∧ t.length ≤ l.length ∧ pAcc acc (n - k) t = R ∧ IRow w.heap.size wr u acc ∧ Rdr wr rb t ∧ w.grownBy wr (some rb)) (fun _ i _ => n - (intOf i).toNat)
  case atStart => exact ⟨0, [], l, Nat.zero_le _, rfl, rfl, Nat.le_refl _, HE.out, World.ownsRow_nil _ _ _ _, HR.out, grown_refl _ _⟩
  case round =>
    obtain ⟨k, acc, t, hk, rfl, ha, ht, hacc, hrow, hrd, hg⟩ := hrel
    have HRow := hid hrow
    have HRd := hid hrd
    have HG := hid hg
    have HAcc := hid hacc
    have hsz := hg.size
    by_cases hkn : k < n
    · cases hp : pItem t with
      | none =>
        have HC : Hid (Calls Try.prog 25 #[.pointer (some ⟨rb, 0, none⟩)] wr fun e w' => e = .panicked shortP ∧ wr.grownBy w' (some rb)) := (item_any hcl rb t wr hrd (by omega)).mono fun e w' h => h.of_none hp
        have HN : Hid (R = none) := by
          rw [← hacc, show n - k = (n - (k + 1)) + 1 by omega]
          exact pAcc_none hp
        clear hrow hrd hg hacc hp
        go_wp2_with (go_at_call 25; refine HC.out.mono ?_; rintro e w1 ⟨rfl, hg⟩; have HG1 := hid hg; clear hg)
        exact ⟨rfl, grown_trans HG.out HG1.out, Or.inl ⟨HN.out, rfl⟩⟩
      | some q =>
        obtain ⟨it, r⟩ := q
        have HC : Hid (Calls Try.prog 25 #[.pointer (some ⟨rb, 0, none⟩)] wr fun e w' => e = .returned (itV it) ∧ wr.grownBy w' (some rb) ∧ Rdr w' rb r) := (item_any hcl rb t wr hrd (by omega)).mono fun e w' h => h.of_some hp
        have HN : Hid (pAcc (acc ++ [it]) (n - (k + 1)) r = R) := by
          rw [← hacc, show n - k = (n - (k + 1)) + 1 by omega]
          exact (pAcc_some hp).symm
        have HL := hid (pItem_len hp)
        have HT := hid ht
        have HA := hid ha
        unfold itV at HC
        clear hrow hrd hg hacc hp
        go_wp2_with (first
          | (go_at_call 25; refine HC.out.mono ?_; rintro e w1 ⟨rfl, hg, hr⟩; have HG1 := hid hg; have HR1 := hid hr; have hs1 := hg.size; clear hg hr)
          | (at_builtin; refine wpList_append_lies _ rfl _ _ _ rfl w.heap.size 40 i0 _ 4 40 Try.underlying22 hi hz0 hz1 hz2 rfl (by omega) _ acc.length (cellsL acc) rfl (ownsRow_later (ownsRow_kept HRow.out HG1.out (by omega)) ((Below.refl _ _).alloc (Nat.le_refl _) _)) ⟨_, 0, none⟩ 1 1 (cells1 it) rfl rfl (cells_new _ _ _ _ _ _) (by simp [cells1]; exact ⟨rfl, rfl, rfl, rfl⟩) (by omega) (by unfold maxLen; omega) (by omega) (by simp; omega) _ rfl ?_; intro q2 cap2 w2 hown2 hg2 hat hlt2; have HO2 := hid hown2; have HG2 := hid hg2; clear hown2 hg2 hat))
        go_roundw
        case rel =>
          refine ⟨k + 1, acc ++ [it], r, by omega, by go_num, by rw [len_snoc, HA.out], Nat.le_trans HL.out HT.out, HN.out, ?_, (HR1.out.alloc _).kept HG2.out (fun e => ?_), grown_two (grown_alloc (grown_trans HG.out HG1.out) _) HG2.out (fun j e hj => ?_)⟩
          · unfold IRow
            rw [← cellsL_snoc, len_snoc]
            have := HO2.out
            simp only [HA.out] at this ⊢
            exact this
          · have := (HRow.out.lt rb e.symm).1
            omega
          · have := (HRow.out.lt j e).1
            omega
        case measure => simp [intOf]; omega
    · obtain rfl : k = n := by omega
      clear hrow hrd hg hacc
      go_wp2_with fail
      go_returns
      have h0 := HAcc.out
      rw [Nat.sub_self, pAcc_zero] at h0
      exact ⟨HG.out, Or.inr ⟨acc, t, _, h0.symm, rfl, HRow.out, HRd.out⟩⟩

end Go.Proofs.Ytidhbgidkgopfaa
