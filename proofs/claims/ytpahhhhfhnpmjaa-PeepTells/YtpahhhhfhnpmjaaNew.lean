/-
  A new machine.
-/
import Derived.Test.YtpahhhhfhnpmjaaChk
import Derived.BigRegion
import Derived.Laws.MakeOwn
import Derived.OwnWalk
namespace Go.Proofs.Ytpahhhhfhnpmjaa
open Go.RowKit
set_option maxRecDepth 100000

def startS (d : Nat) (inp : List Int) : Mc.St := { pc := 0, stack := [], gs := [], lo := [], bk := 0, data := List.replicate d 0, inp := inp, out := [], ticks := 0, steps := 0, en := 0 }
def zer (d : Nat) : Array Value := madeCells #[.int .i64 0] d
theorem zer_size (d : Nat) : (zer d).size = d := size_madeCells _ _
theorem zer_list (d : Nat) : (zer d).toList = ints (List.replicate d 0) := by
  apply List.ext_getElem?
  intro i
  by_cases h : i < d
  · simp [zer, madeCells, ints, h, Nat.mod_one]
  · simp [zer, madeCells, ints, h]
theorem newInfo3 : (Try.prog.info? 3).map (fun i => (i.zero, i.size, i.bytes)) = some (some (.int .i64 0), 1, 8) := by kernel_rfl
theorem make_zer (d : Nat) (hd : d ≤ 512) (w : World) : (Instr.makeSlice 37 (.int .i64 (d : Int)) (.int .i64 (d : Int))).run Try.prog w = .ok (.slice (some ⟨w.heap.size, 0, none⟩) d d) (w.alloc (.cells (zer d) 3)) := by
  obtain ⟨i0, hi, hz0, hz1, hz2⟩ := info_parts newInfo3
  have := run_make (P := Try.prog) w 37 3 i0 _ Try.underlying37 hi hz0 .i64 .i64 (d : Int) (d : Int) (by omega) (by omega) (by rw [hz2]; omega) (by omega)
  rw [this, hz1, Nat.mul_one, Int.toNat_natCast]
  rfl

/- the blocks of a new machine -/
theorem start_at {w W : World} {R bf bd d : Nat} {cv iv : Value} {c : Mc.Cfg} {inp : List Int} (hb : Below w.heap.size w W) (hR : w.heap.size ≤ R) (hf : w.heap.size ≤ bf) (hdd : w.heap.size ≤ bd) (h1 : R ≠ bf) (h2 : R ≠ bd) (h3 : bf ≠ bd)
    (kR : W.heap[R]? = some (.cells #[cv, .int .i64 0, .slice none 0 0, .slice none 0 0, .slice (some ⟨bf, 0, none⟩) 1 1, .slice (some ⟨bd, 0, none⟩) d d, iv, .slice none 0 0, .int .i64 c.mt, .int .i64 0, .int .i64 c.ms, .int .i64 0, .int .i64 0] 64 (0, 0)))
    (kf : W.heap[bf]? = some (.cells #[.int .i64 0, .int .i64 0] 72 (0, 0))) (kd : W.heap[bd]? = some (.cells (zer d) 3 (0, 0)))
    (hc : CfgOk c) (hcode : CodeAt w w.heap.size cv c.code) (hi : IntsAt w w.heap.size iv inp) (hin : inp.length ≤ 64) (hd : d ≤ 512) (ht : 0 ≤ c.mt) (hs : 0 ≤ c.ms) :
    MAt w.heap.size R c w W (fun k => if k = R then 1 else if k = bf then 4 else if k = bd then 5 else 9) ⟨cv, .slice none 0 0, .slice none 0 0, .slice (some ⟨bf, 0, none⟩) 1 1, .slice (some ⟨bd, 0, none⟩) d d, iv, .slice none 0 0⟩ (startS d inp) where
  blk := kR
  hR := hR
  tR := if_pos rfl
  st := ⟨World.ownsRow_nil _ _ _ _, fun k e => by cases e⟩
  lo := ⟨World.ownsRow_nil _ _ _ _, fun k e => by cases e⟩
  fr := ⟨⟨rfl, Or.inr ⟨bf, 1, _, rfl, hf, kf, Nat.le_refl _, by unfold maxLen; omega, rfl, rfl⟩⟩, fun k e => by
    have e : bf = k := by simpa [Value.ownBlock] using e
    subst e
    show (if bf = R then 1 else if bf = bf then 4 else if bf = bd then 5 else 9) = 4
    rw [if_neg (Ne.symm h1), if_pos rfl]⟩
  da := ⟨⟨by rw [ints_length, Nat.mul_one], Or.inr ⟨bd, d, _, by simp [startS], hdd, kd, by simp [startS], by unfold maxLen; omega, by rw [zer_size, Nat.mul_one], by
      rw [Nat.mul_one, zer_list]
      exact List.take_of_length_le (by rw [ints_length]; exact Nat.le_refl _)⟩⟩, fun k e => by
    have e : bd = k := by simpa [Value.ownBlock] using e
    subst e
    show (if bd = R then 1 else if bd = bf then 4 else if bd = bd then 5 else 9) = 5
    rw [if_neg (Ne.symm h2), if_neg (Ne.symm h3), if_pos rfl]⟩
  ou := ⟨World.ownsRow_nil _ _ _ _, fun k e => by cases e⟩
  below := hb
  cfg := hc
  code := hcode
  inp := hi
  bst := by simp [startS]
  bgs := by simp [startS]
  bfr := fun f hf => by simp [startS] at hf
  blo := by simp [startS]
  bda := by simp [startS]; exact hd
  bou := by simp [startS]
  bin := hin
  tk := ⟨Int.le_refl _, ht⟩
  sp := ⟨Int.le_refl _, hs⟩

theorem four_new (w : World) (o1 o2 o3 o4 : Obj) : ((((w.alloc o1).alloc o2).alloc o3).alloc o4).drew.heap[w.heap.size + 1]? = some o2 ∧ ((((w.alloc o1).alloc o2).alloc o3).alloc o4).drew.heap[w.heap.size + 1 + 1]? = some o3 ∧ ((((w.alloc o1).alloc o2).alloc o3).alloc o4).drew.heap[w.heap.size + 1 + 1 + 1]? = some o4 ∧ Below w.heap.size w ((((w.alloc o1).alloc o2).alloc o3).alloc o4).drew := by
  have e : ∀ (v : World) (o : Obj), (v.alloc o).heap = v.heap.push o := fun _ _ => rfl
  have e2 : ∀ v : World, v.drew.heap = v.heap := fun _ => rfl
  refine ⟨?_, ?_, ?_, ((((Below.refl _ _).alloc (Nat.le_refl _) _).alloc (by simp) _).alloc (by simp; omega) _).alloc (by simp; omega) _ |>.drew⟩
  · simp only [e, e2, Array.getElem?_push, Array.size_push]
    rw [if_neg (by omega), if_neg (by omega), if_pos trivial]
  · simp only [e, e2, Array.getElem?_push, Array.size_push]
    rw [if_neg (by omega), if_pos trivial]
  · simp only [e, e2, Array.getElem?_push, Array.size_push]
    rw [if_pos trivial]

set_option maxHeartbeats 800000 in
theorem new_any (a ia : Option Addr) (cap n m icap d : Nat) (c : Mc.Cfg) (inp : List Int) (w : World) (hd : d ≤ 512)
    (hc : CfgOk c) (hcode : CodeAt w w.heap.size (.slice a n cap) c.code) (hi : IntsAt w w.heap.size (.slice ia m icap) inp) (hin : inp.length ≤ 64) (ht : 0 ≤ c.mt) (hs : 0 ≤ c.ms) :
    Calls Try.prog 27 #[.agg #[.slice a n cap, .int .i64 d], .slice ia m icap, .int .i64 c.mt, .int .i64 c.ms] w fun e w' => ∃ R T v, e = .returned (.pointer (some ⟨R, 0, none⟩)) ∧ MAt w.heap.size R c w w' T v (startS d inp) := by
  have hmk := make_zer d hd
  have HS : Hid (∀ (W : World) (R bf bd : Nat), Below w.heap.size w W → w.heap.size ≤ R → w.heap.size ≤ bf → w.heap.size ≤ bd → R ≠ bf → R ≠ bd → bf ≠ bd →
    W.heap[R]? = some (.cells #[.slice a n cap, .int .i64 0, .slice none 0 0, .slice none 0 0, .slice (some ⟨bf, 0, none⟩) 1 1, .slice (some ⟨bd, 0, none⟩) d d, .slice ia m icap, .slice none 0 0, .int .i64 c.mt, .int .i64 0, .int .i64 c.ms, .int .i64 0, .int .i64 0] 64 (0, 0)) →
    W.heap[bf]? = some (.cells #[.int .i64 0, .int .i64 0] 72 (0, 0)) → W.heap[bd]? = some (.cells (zer d) 3 (0, 0)) → ∃ T v, MAt w.heap.size R c w W T v (startS d inp)) := fun W R bf bd h1 h2 h3 h4 h5 h6 h7 h8 h9 h10 => ⟨_, _, start_at h1 h2 h3 h4 h5 h6 h7 h8 h9 h10 hc hcode hi hin hd ht hs⟩
  clear hc hcode hi hin ht hs
  go_enter Try.func27, Try.ntmps27
  go_wp2_with fail
  go_region
  all_goals
    go_wp2_with fail
    go_returns
  · obtain ⟨k1, k2, k3, kb⟩ := four_new w (.cells #[.slice a n cap, .int .i64 (d : Int)] 24) (.cells #[.int .i64 0, .int .i64 0] 72) (.cells (zer d) 3) (.cells #[.slice a n cap, .int .i64 0, .slice none 0 0, .slice none 0 0, .slice (some ⟨w.heap.size + 1, 0, none⟩) 1 1, .slice (some ⟨w.heap.size + 1 + 1, 0, none⟩) d d, .slice ia m icap, .slice none 0 0, .int .i64 c.mt, .int .i64 0, .int .i64 c.ms, .int .i64 0, .int .i64 0] 64)
    obtain ⟨T, v, h⟩ := HS.out _ (w.heap.size + 1 + 1 + 1) (w.heap.size + 1) (w.heap.size + 1 + 1) kb (by omega) (by omega) (by omega) (by omega) (by omega) (by omega) k3 k1 k2
    exact ⟨_, T, v, rfl, h⟩
  · obtain ⟨k1, k2, k3, kb⟩ := four_new w (.cells #[.slice a n cap, .int .i64 (d : Int)] 24) (.cells (zer d) 3) (.cells #[.int .i64 0, .int .i64 0] 72) (.cells #[.slice a n cap, .int .i64 0, .slice none 0 0, .slice none 0 0, .slice (some ⟨w.heap.size + 1 + 1, 0, none⟩) 1 1, .slice (some ⟨w.heap.size + 1, 0, none⟩) d d, .slice ia m icap, .slice none 0 0, .int .i64 c.mt, .int .i64 0, .int .i64 c.ms, .int .i64 0, .int .i64 0] 64)
    obtain ⟨T, v, h⟩ := HS.out _ (w.heap.size + 1 + 1 + 1) (w.heap.size + 1 + 1) (w.heap.size + 1) kb (by omega) (by omega) (by omega) (by omega) (by omega) (by omega) k3 k2 k1
    exact ⟨_, T, v, rfl, h⟩

end Go.Proofs.Ytpahhhhfhnpmjaa
