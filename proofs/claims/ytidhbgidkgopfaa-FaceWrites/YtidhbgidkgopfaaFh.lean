/-
  Texts and numbers as bytes, put behind: the program's.
-/
import Derived.Test.YtidhbgidkgopfaaFg
namespace Go.Proofs.Ytidhbgidkgopfaa
open Go.RowKit Go.Shelf
set_option maxRecDepth 100000

theorem info5 : (Try.prog.info? 5).map (fun i => (i.zero, i.size, i.bytes)) = some (some (.int .u8 0), 1, 1) := by kernel_rfl
/- a row of bytes that is owned -/
def Row (B : Nat) (w : World) (v : Value) (l : List UInt8) : Prop := w.ownsRow B 5 1 v l.length (bytesV l)
theorem Row.later {B : Nat} {w w' : World} {v : Value} {l : List UInt8} (h : Row B w v l) (hb : Below w.heap.size w w') : Row B w' v l := ownsRow_later h hb
theorem Row.nil (B : Nat) (w : World) : Row B w (.slice none 0 0) [] := World.ownsRow_nil _ _ _ _
theorem Row.lies {B : Nat} {w : World} {v : Value} {l : List UInt8} (h : Row B w v l) : ∀ k, v.ownBlock = some k → B ≤ k ∧ k < w.heap.size := fun k e => h.lt k e
/- what is no row of bytes stays -/
theorem Row.keep {B : Nat} {w w' : World} {v : Value} {l : List UInt8} (h : Row B w v l) (hg : w.grownBy w' v.ownBlock) {c : Nat} {cs : Array Value} {t : TypeId} {f : Nat × Nat} (ht : t ≠ 5) (hc : w.heap[c]? = some (.cells cs t f)) : w'.heap[c]? = some (.cells cs t f) := by
  have hlt : c < w.heap.size := by
    rcases Nat.lt_or_ge c w.heap.size with h' | h'
    · exact h'
    · simp [Array.getElem?_eq_none h'] at hc
  refine (hg.block c hlt (fun e => ?_)).trans hc
  rcases h.2 with ⟨hv, _⟩ | ⟨g, cap, cur, hv, _, hgg, _⟩
  · rw [hv] at e; cases e
  · rw [hv] at e
    have e' : c = g := by simpa [Value.ownBlock] using e
    subst e'
    rw [hgg] at hc
    cases hc
    exact ht rfl
theorem snocB (l : List UInt8) (c : UInt8) : bytesV l ++ [byteV c] = bytesV (l ++ [c]) := by simp [bytesV]

theorem grown_two {w w1 w2 : World} {r r1 : Option Nat} (h1 : w.grownBy w1 r) (h2 : w1.grownBy w2 r1) (hl : ∀ k, r1 = some k → k < w.heap.size → r = some k) : w.grownBy w2 r :=
  ⟨h2.os.trans h1.os, h2.tape.trans h1.tape, h2.output.trans h1.output, Nat.le_trans h1.size h2.size, fun k hk hne => (h2.block k (Nat.lt_of_lt_of_le hk h1.size) (fun e => hne (hl k e.symm hk).symm)).trans (h1.block k hk hne)⟩
/- one byte more, at the operation: what is left to show -/
theorem step_byte {B : Nat} {w w1 : World} {a : Value} {l : List UInt8} {c : UInt8} {o : Obj} {q cap : Nat} (hown : w1.ownsRow B 5 1 (.slice (some ⟨q, 0, none⟩) (l.length + 1) cap) (l.length + 1) (bytesV l ++ [byteV c])) (hg : (w.alloc o).grownBy w1 a.ownBlock) (hat : a.ownBlock = some q ∨ q = w.heap.size + 1) :
    Row B w1 (.slice (some ⟨q, 0, none⟩) (l.length + 1) cap) (l ++ [c]) ∧ w.grownBy w1 a.ownBlock ∧ (∀ k, Value.ownBlock (.slice (some ⟨q, 0, none⟩) (l.length + 1) cap) = some k → k < w.heap.size → a.ownBlock = some k) := by
  refine ⟨?_, ⟨hg.os, hg.tape, hg.output, Nat.le_trans (by simp) hg.size, fun k hk hne => (hg.block k (by simp; omega) hne).trans (((Below.refl _ _).alloc (Nat.le_refl _) o).block k hk)⟩, fun k e hk => ?_⟩
  · unfold Row
    rw [← snocB, len_snoc]
    exact hown
  · have e' : q = k := by simpa [Value.ownBlock] using e
    subst e'
    rcases hat with h | h
    · exact h
    · omega

set_option maxHeartbeats 800000 in
theorem AppendText_any (B : Nat) (v : Value) (l : List UInt8) (s : ByteArray) (w : World) (h : Row B w v l) (hB : B ≤ w.heap.size) (hl : l.length ≤ 1000000) (hs : s.size ≤ 1000000) :
    Calls Try.prog 13 #[v, .string s] w fun e w' => ∃ v', e = .returned v' ∧ Row B w' v' (l ++ textB s) ∧ w.grownBy w' v.ownBlock := by
  obtain ⟨i0, hi, hz0, hz1, hz2⟩ := info_parts info5
  have HR := hid h
  have HBV : Hid (byteV (byteOf s.size) = .int .u8 ((s.size : Int) % 256)) := byteV_of _
  clear h
  go_enter Try.func13, Try.ntmps13
  go_wp2_with (first
    | (at_builtin; refine wpList_append_lies _ rfl _ _ _ rfl B 5 i0 _ 1 1 Try.underlying37 hi hz0 hz1 hz2 rfl (by omega) v l.length (bytesV l) rfl (HR.out.later ((Below.refl _ _).alloc (Nat.le_refl _) _)) ⟨_, 0, none⟩ 1 1 [byteV (byteOf s.size)] rfl rfl (by rw [HBV.out]; exact cell_one_at (by simp)) (by simp; rfl) (by omega) (by unfold maxLen; omega) (by omega) (by simp; omega) _ rfl ?_; intro q2 cap2 w1 hown1 hg hat hlt2; obtain ⟨k1, k2, k3⟩ := step_byte (c := byteOf s.size) hown1 hg (by simpa using hat); have K1 := hid k1; have K2 := hid k2; have K3 := hid k3; clear hown1 hg hat k1 k2 k3)
    | (at_builtin; refine Lib.wpList_append_own_string _ rfl _ _ _ _ rfl B 5 i0 Try.underlying37 Try.underlying9 hi hz0 hz1 hz2 _ (l ++ [byteOf s.size]).length (bytesV (l ++ [byteOf s.size])) rfl K1.out s rfl (by rw [len_snoc]; unfold maxLen; omega) (by rw [len_snoc]; omega) (by have := K2.out.size; omega) ?_; intro v2 w2 hown2 hg2 _; have HO2 := hid hown2; have HG2 := hid hg2; clear hown2 hg2))
  go_returns
  refine ⟨_, rfl, ?_, grown_two K2.out HG2.out K3.out⟩
  have e : l ++ textB s = (l ++ [byteOf s.size]) ++ s.data.toList := by simp [textB]
  unfold Row
  rw [e, bytesV_app, ← bytesV_str, List.length_append, Lx.len_toList]
  exact HO2.out

set_option maxHeartbeats 3200000 in
theorem AppendNumber_any (B : Nat) (v : Value) (l : List UInt8) (n : Int) (w : World) (h : Row B w v l) (hB : B ≤ w.heap.size) (hl : l.length ≤ 1000000) :
    Calls Try.prog 14 #[v, .int .i64 n] w fun e w' => ∃ v', e = .returned v' ∧ Row B w' v' (l ++ numB n) ∧ w.grownBy w' v.ownBlock := by
  obtain ⟨i0, hi, hz0, hz1, hz2⟩ := info_parts info5
  have HR := hid h
  clear h
  go_enter Try.func14, Try.ntmps14
  go_wp2_with fail
  go_loopw [0, 5] (fun u i wr => ∃ k : Nat, k ≤ 8 ∧ i = .int .i64 (56 - 8 * k) ∧ Row B wr u (l ++ (numB n).take k) ∧ w.grownBy wr v.ownBlock ∧ (∀ j, u.ownBlock = some j → j < w.heap.size → v.ownBlock = some j)) (fun _ i _ => (intOf i + 8).toNat)
  case atStart => exact ⟨0, Nat.zero_le _, rfl, by rw [List.take_zero, List.append_nil]; exact HR.out, ⟨rfl, rfl, rfl, Nat.le_refl _, fun _ _ _ => rfl⟩, fun j e _ => e⟩
  case round =>
    obtain ⟨k, hk, rfl, hrow, hgr, hli⟩ := hrel
    have HRw := hid hrow
    have HGr := hid hgr
    have HLi := hid hli
    have hwr : w.heap.size ≤ wr.heap.size := hgr.size
    clear hrow hgr hli
    have hc : k = 0 ∨ k = 1 ∨ k = 2 ∨ k = 3 ∨ k = 4 ∨ k = 5 ∨ k = 6 ∨ k = 7 ∨ k = 8 := by omega
    clear hk
    rcases hc with rfl | rfl | rfl | rfl | rfl | rfl | rfl | rfl | rfl
    · have HBV : Hid (byteV (byteOf (n / 72057594037927936)) = .int .u8 (n / 72057594037927936 % 256)) := byteV_of _
      have HE : Hid (l ++ (numB n).take (0 + 1) = (l ++ (numB n).take 0) ++ [byteOf (n / 72057594037927936)]) := by
        show l ++ (numB n).take (0 + 1) = _
        rw [show (numB n).take (0 + 1) = (numB n).take 0 ++ [byteOf (n / 72057594037927936)] from rfl, List.append_assoc]
      have hlk : (l ++ (numB n).take 0).length = l.length := by simp [numB]
      rw [show ((56 : Int) - 8 * ((0 : Nat) : Int)) = 56 from by omega]
      go_wp2_with (at_builtin; refine wpList_append_lies _ rfl _ _ _ rfl B 5 i0 _ 1 1 Try.underlying37 hi hz0 hz1 hz2 rfl (by omega) _ (l ++ (numB n).take 0).length (bytesV (l ++ (numB n).take 0)) rfl (HRw.out.later ((Below.refl _ _).alloc (Nat.le_refl _) _)) ⟨_, 0, none⟩ 1 1 [byteV (byteOf (n / 72057594037927936))] rfl rfl (by rw [HBV.out]; exact cell_one_at (by simp)) (by simp; rfl) (by omega) (by rw [hlk]; unfold maxLen; omega) (by rw [hlk]; omega) (by simp; omega) _ rfl ?_; intro q2 cap2 w1 hown1 hg hat hlt2; obtain ⟨k1, k2, k3⟩ := step_byte (c := byteOf (n / 72057594037927936)) hown1 hg (by simpa using hat); have K1 := hid k1; have K2 := hid k2; have K3 := hid k3; clear hown1 hg hat k1 k2 k3)
      go_roundw
      case rel => exact ⟨0 + 1, by omega, by first | rfl | (congr 1), by rw [HE.out]; have := K1.out; unfold Row at this ⊢; simp only [len_snoc, hlk] at this ⊢; exact this, grown_two HGr.out K2.out HLi.out, fun j e hj => HLi.out j (K3.out j e (by omega)) hj⟩
      case measure => simp [intOf]
    · have HBV : Hid (byteV (byteOf (n / 281474976710656)) = .int .u8 (n / 281474976710656 % 256)) := byteV_of _
      have HE : Hid (l ++ (numB n).take (1 + 1) = (l ++ (numB n).take 1) ++ [byteOf (n / 281474976710656)]) := by
        show l ++ (numB n).take (1 + 1) = _
        rw [show (numB n).take (1 + 1) = (numB n).take 1 ++ [byteOf (n / 281474976710656)] from rfl, List.append_assoc]
      have hlk : (l ++ (numB n).take 1).length = l.length + 1 := by simp [numB]
      rw [show ((56 : Int) - 8 * ((1 : Nat) : Int)) = 48 from by omega]
      go_wp2_with (at_builtin; refine wpList_append_lies _ rfl _ _ _ rfl B 5 i0 _ 1 1 Try.underlying37 hi hz0 hz1 hz2 rfl (by omega) _ (l ++ (numB n).take 1).length (bytesV (l ++ (numB n).take 1)) rfl (HRw.out.later ((Below.refl _ _).alloc (Nat.le_refl _) _)) ⟨_, 0, none⟩ 1 1 [byteV (byteOf (n / 281474976710656))] rfl rfl (by rw [HBV.out]; exact cell_one_at (by simp)) (by simp; rfl) (by omega) (by rw [hlk]; unfold maxLen; omega) (by rw [hlk]; omega) (by simp; omega) _ rfl ?_; intro q2 cap2 w1 hown1 hg hat hlt2; obtain ⟨k1, k2, k3⟩ := step_byte (c := byteOf (n / 281474976710656)) hown1 hg (by simpa using hat); have K1 := hid k1; have K2 := hid k2; have K3 := hid k3; clear hown1 hg hat k1 k2 k3)
      go_roundw
      case rel => exact ⟨1 + 1, by omega, by first | rfl | (congr 1), by rw [HE.out]; have := K1.out; unfold Row at this ⊢; simp only [len_snoc, hlk] at this ⊢; exact this, grown_two HGr.out K2.out HLi.out, fun j e hj => HLi.out j (K3.out j e (by omega)) hj⟩
      case measure => simp [intOf]
    · have HBV : Hid (byteV (byteOf (n / 1099511627776)) = .int .u8 (n / 1099511627776 % 256)) := byteV_of _
      have HE : Hid (l ++ (numB n).take (2 + 1) = (l ++ (numB n).take 2) ++ [byteOf (n / 1099511627776)]) := by
        show l ++ (numB n).take (2 + 1) = _
        rw [show (numB n).take (2 + 1) = (numB n).take 2 ++ [byteOf (n / 1099511627776)] from rfl, List.append_assoc]
      have hlk : (l ++ (numB n).take 2).length = l.length + 2 := by simp [numB]
      rw [show ((56 : Int) - 8 * ((2 : Nat) : Int)) = 40 from by omega]
      go_wp2_with (at_builtin; refine wpList_append_lies _ rfl _ _ _ rfl B 5 i0 _ 1 1 Try.underlying37 hi hz0 hz1 hz2 rfl (by omega) _ (l ++ (numB n).take 2).length (bytesV (l ++ (numB n).take 2)) rfl (HRw.out.later ((Below.refl _ _).alloc (Nat.le_refl _) _)) ⟨_, 0, none⟩ 1 1 [byteV (byteOf (n / 1099511627776))] rfl rfl (by rw [HBV.out]; exact cell_one_at (by simp)) (by simp; rfl) (by omega) (by rw [hlk]; unfold maxLen; omega) (by rw [hlk]; omega) (by simp; omega) _ rfl ?_; intro q2 cap2 w1 hown1 hg hat hlt2; obtain ⟨k1, k2, k3⟩ := step_byte (c := byteOf (n / 1099511627776)) hown1 hg (by simpa using hat); have K1 := hid k1; have K2 := hid k2; have K3 := hid k3; clear hown1 hg hat k1 k2 k3)
      go_roundw
      case rel => exact ⟨2 + 1, by omega, by first | rfl | (congr 1), by rw [HE.out]; have := K1.out; unfold Row at this ⊢; simp only [len_snoc, hlk] at this ⊢; exact this, grown_two HGr.out K2.out HLi.out, fun j e hj => HLi.out j (K3.out j e (by omega)) hj⟩
      case measure => simp [intOf]
    · have HBV : Hid (byteV (byteOf (n / 4294967296)) = .int .u8 (n / 4294967296 % 256)) := byteV_of _
      have HE : Hid (l ++ (numB n).take (3 + 1) = (l ++ (numB n).take 3) ++ [byteOf (n / 4294967296)]) := by
        show l ++ (numB n).take (3 + 1) = _
        rw [show (numB n).take (3 + 1) = (numB n).take 3 ++ [byteOf (n / 4294967296)] from rfl, List.append_assoc]
      have hlk : (l ++ (numB n).take 3).length = l.length + 3 := by simp [numB]
      rw [show ((56 : Int) - 8 * ((3 : Nat) : Int)) = 32 from by omega]
      go_wp2_with (at_builtin; refine wpList_append_lies _ rfl _ _ _ rfl B 5 i0 _ 1 1 Try.underlying37 hi hz0 hz1 hz2 rfl (by omega) _ (l ++ (numB n).take 3).length (bytesV (l ++ (numB n).take 3)) rfl (HRw.out.later ((Below.refl _ _).alloc (Nat.le_refl _) _)) ⟨_, 0, none⟩ 1 1 [byteV (byteOf (n / 4294967296))] rfl rfl (by rw [HBV.out]; exact cell_one_at (by simp)) (by simp; rfl) (by omega) (by rw [hlk]; unfold maxLen; omega) (by rw [hlk]; omega) (by simp; omega) _ rfl ?_; intro q2 cap2 w1 hown1 hg hat hlt2; obtain ⟨k1, k2, k3⟩ := step_byte (c := byteOf (n / 4294967296)) hown1 hg (by simpa using hat); have K1 := hid k1; have K2 := hid k2; have K3 := hid k3; clear hown1 hg hat k1 k2 k3)
      go_roundw
      case rel => exact ⟨3 + 1, by omega, by first | rfl | (congr 1), by rw [HE.out]; have := K1.out; unfold Row at this ⊢; simp only [len_snoc, hlk] at this ⊢; exact this, grown_two HGr.out K2.out HLi.out, fun j e hj => HLi.out j (K3.out j e (by omega)) hj⟩
      case measure => simp [intOf]
    · have HBV : Hid (byteV (byteOf (n / 16777216)) = .int .u8 (n / 16777216 % 256)) := byteV_of _
      have HE : Hid (l ++ (numB n).take (4 + 1) = (l ++ (numB n).take 4) ++ [byteOf (n / 16777216)]) := by
        show l ++ (numB n).take (4 + 1) = _
        rw [show (numB n).take (4 + 1) = (numB n).take 4 ++ [byteOf (n / 16777216)] from rfl, List.append_assoc]
      have hlk : (l ++ (numB n).take 4).length = l.length + 4 := by simp [numB]
      rw [show ((56 : Int) - 8 * ((4 : Nat) : Int)) = 24 from by omega]
      go_wp2_with (at_builtin; refine wpList_append_lies _ rfl _ _ _ rfl B 5 i0 _ 1 1 Try.underlying37 hi hz0 hz1 hz2 rfl (by omega) _ (l ++ (numB n).take 4).length (bytesV (l ++ (numB n).take 4)) rfl (HRw.out.later ((Below.refl _ _).alloc (Nat.le_refl _) _)) ⟨_, 0, none⟩ 1 1 [byteV (byteOf (n / 16777216))] rfl rfl (by rw [HBV.out]; exact cell_one_at (by simp)) (by simp; rfl) (by omega) (by rw [hlk]; unfold maxLen; omega) (by rw [hlk]; omega) (by simp; omega) _ rfl ?_; intro q2 cap2 w1 hown1 hg hat hlt2; obtain ⟨k1, k2, k3⟩ := step_byte (c := byteOf (n / 16777216)) hown1 hg (by simpa using hat); have K1 := hid k1; have K2 := hid k2; have K3 := hid k3; clear hown1 hg hat k1 k2 k3)
      go_roundw
      case rel => exact ⟨4 + 1, by omega, by first | rfl | (congr 1), by rw [HE.out]; have := K1.out; unfold Row at this ⊢; simp only [len_snoc, hlk] at this ⊢; exact this, grown_two HGr.out K2.out HLi.out, fun j e hj => HLi.out j (K3.out j e (by omega)) hj⟩
      case measure => simp [intOf]
    · have HBV : Hid (byteV (byteOf (n / 65536)) = .int .u8 (n / 65536 % 256)) := byteV_of _
      have HE : Hid (l ++ (numB n).take (5 + 1) = (l ++ (numB n).take 5) ++ [byteOf (n / 65536)]) := by
        show l ++ (numB n).take (5 + 1) = _
        rw [show (numB n).take (5 + 1) = (numB n).take 5 ++ [byteOf (n / 65536)] from rfl, List.append_assoc]
      have hlk : (l ++ (numB n).take 5).length = l.length + 5 := by simp [numB]
      rw [show ((56 : Int) - 8 * ((5 : Nat) : Int)) = 16 from by omega]
      go_wp2_with (at_builtin; refine wpList_append_lies _ rfl _ _ _ rfl B 5 i0 _ 1 1 Try.underlying37 hi hz0 hz1 hz2 rfl (by omega) _ (l ++ (numB n).take 5).length (bytesV (l ++ (numB n).take 5)) rfl (HRw.out.later ((Below.refl _ _).alloc (Nat.le_refl _) _)) ⟨_, 0, none⟩ 1 1 [byteV (byteOf (n / 65536))] rfl rfl (by rw [HBV.out]; exact cell_one_at (by simp)) (by simp; rfl) (by omega) (by rw [hlk]; unfold maxLen; omega) (by rw [hlk]; omega) (by simp; omega) _ rfl ?_; intro q2 cap2 w1 hown1 hg hat hlt2; obtain ⟨k1, k2, k3⟩ := step_byte (c := byteOf (n / 65536)) hown1 hg (by simpa using hat); have K1 := hid k1; have K2 := hid k2; have K3 := hid k3; clear hown1 hg hat k1 k2 k3)
      go_roundw
      case rel => exact ⟨5 + 1, by omega, by first | rfl | (congr 1), by rw [HE.out]; have := K1.out; unfold Row at this ⊢; simp only [len_snoc, hlk] at this ⊢; exact this, grown_two HGr.out K2.out HLi.out, fun j e hj => HLi.out j (K3.out j e (by omega)) hj⟩
      case measure => simp [intOf]
    · have HBV : Hid (byteV (byteOf (n / 256)) = .int .u8 (n / 256 % 256)) := byteV_of _
      have HE : Hid (l ++ (numB n).take (6 + 1) = (l ++ (numB n).take 6) ++ [byteOf (n / 256)]) := by
        show l ++ (numB n).take (6 + 1) = _
        rw [show (numB n).take (6 + 1) = (numB n).take 6 ++ [byteOf (n / 256)] from rfl, List.append_assoc]
      have hlk : (l ++ (numB n).take 6).length = l.length + 6 := by simp [numB]
      rw [show ((56 : Int) - 8 * ((6 : Nat) : Int)) = 8 from by omega]
      go_wp2_with (at_builtin; refine wpList_append_lies _ rfl _ _ _ rfl B 5 i0 _ 1 1 Try.underlying37 hi hz0 hz1 hz2 rfl (by omega) _ (l ++ (numB n).take 6).length (bytesV (l ++ (numB n).take 6)) rfl (HRw.out.later ((Below.refl _ _).alloc (Nat.le_refl _) _)) ⟨_, 0, none⟩ 1 1 [byteV (byteOf (n / 256))] rfl rfl (by rw [HBV.out]; exact cell_one_at (by simp)) (by simp; rfl) (by omega) (by rw [hlk]; unfold maxLen; omega) (by rw [hlk]; omega) (by simp; omega) _ rfl ?_; intro q2 cap2 w1 hown1 hg hat hlt2; obtain ⟨k1, k2, k3⟩ := step_byte (c := byteOf (n / 256)) hown1 hg (by simpa using hat); have K1 := hid k1; have K2 := hid k2; have K3 := hid k3; clear hown1 hg hat k1 k2 k3)
      go_roundw
      case rel => exact ⟨6 + 1, by omega, by first | rfl | (congr 1), by rw [HE.out]; have := K1.out; unfold Row at this ⊢; simp only [len_snoc, hlk] at this ⊢; exact this, grown_two HGr.out K2.out HLi.out, fun j e hj => HLi.out j (K3.out j e (by omega)) hj⟩
      case measure => simp [intOf]
    · have HBV : Hid (byteV (byteOf n) = .int .u8 (n % 256)) := byteV_of _
      have HE : Hid (l ++ (numB n).take (7 + 1) = (l ++ (numB n).take 7) ++ [byteOf n]) := by
        show l ++ (numB n).take (7 + 1) = _
        rw [show (numB n).take (7 + 1) = (numB n).take 7 ++ [byteOf n] from rfl, List.append_assoc]
      have hlk : (l ++ (numB n).take 7).length = l.length + 7 := by simp [numB]
      rw [show ((56 : Int) - 8 * ((7 : Nat) : Int)) = 0 from by omega]
      go_wp2_with (at_builtin; refine wpList_append_lies _ rfl _ _ _ rfl B 5 i0 _ 1 1 Try.underlying37 hi hz0 hz1 hz2 rfl (by omega) _ (l ++ (numB n).take 7).length (bytesV (l ++ (numB n).take 7)) rfl (HRw.out.later ((Below.refl _ _).alloc (Nat.le_refl _) _)) ⟨_, 0, none⟩ 1 1 [byteV (byteOf n)] rfl rfl (by rw [HBV.out]; exact cell_one_at (by simp)) (by simp; rfl) (by omega) (by rw [hlk]; unfold maxLen; omega) (by rw [hlk]; omega) (by simp; omega) _ rfl ?_; intro q2 cap2 w1 hown1 hg hat hlt2; obtain ⟨k1, k2, k3⟩ := step_byte (c := byteOf n) hown1 hg (by simpa using hat); have K1 := hid k1; have K2 := hid k2; have K3 := hid k3; clear hown1 hg hat k1 k2 k3)
      go_roundw
      case rel => exact ⟨7 + 1, by omega, by first | rfl | (congr 1), by rw [HE.out]; have := K1.out; unfold Row at this ⊢; simp only [len_snoc, hlk] at this ⊢; exact this, grown_two HGr.out K2.out HLi.out, fun j e hj => HLi.out j (K3.out j e (by omega)) hj⟩
      case measure => simp [intOf]
    · rw [show ((56 : Int) - 8 * ((8 : Nat) : Int)) = -8 from by omega]
      go_wp2_with fail
      go_returns
      exact ⟨_, rfl, HRw.out, HGr.out⟩

end Go.Proofs.Ytidhbgidkgopfaa
