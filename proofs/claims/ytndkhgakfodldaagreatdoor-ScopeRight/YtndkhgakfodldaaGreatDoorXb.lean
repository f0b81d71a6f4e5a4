/-
  The program's look at an item.
-/
import Derived.Test.YtndkhgakfodldaaGreatDoorUh
import Derived.Maps.OwnSet
import Derived.Maps.AppendAt
import Derived.Deep.AppendLies
namespace Go.Proofs.YtndkhgakfodldaaGreatDoor
namespace Fx
open Go.RowKit Go.Shelf
set_option maxRecDepth 100000
set_option linter.unusedSimpArgs false

def It.val (i : It) : Value := .agg #[.int .i64 i.kind, .int .i64 i.n, .int .i64 i.at_, .string i.name]
theorem bel {w w' : World} {o : Obj} (hb : Below (w.alloc o).heap.size (w.alloc o) w') : Below w.heap.size w w' := ((Below.refl _ _).alloc (Nat.le_refl _) _).trans (hb.mono (by simp))

set_option maxHeartbeats 800000 in
theorem itemHolds_1 (n at_ : Int) (s : ByteArray) (w : World) (hs : s.size ≤ maxLen) :
    Calls Tryz.prog 61 #[.agg #[.int .i64 1, .int .i64 n, .int .i64 at_, .string s]] w fun e w' => e = .returned (.bool (nameOk s && (decide (0 ≤ n) && decide (n ≤ 1099511627775) && decide (0 ≤ at_) && decide (at_ ≤ 0)))) ∧ Below w.heap.size w w' := by
  have HN : Hid (∀ W, Calls Tryz.prog 58 #[.string s] W fun e w' => e = .returned (.bool (nameOk s)) ∧ Below W.heap.size W w') := fun W => scopeName_any s W hs
  generalize nameOk s = nb at *
  generalize hR : (nb && _) = R
  have HR := hid hR
  clear hR
  have hf : ∀ (w' : World) (o : Obj), Below (w.alloc o).heap.size (w.alloc o) w' → (∀ j, w'.cell? ⟨w.heap.size, j, none⟩ = (w.alloc o).cell? ⟨w.heap.size, j, none⟩) := fun w' o hb j => hb.cell (p := ⟨w.heap.size, j, none⟩) (by simp)
  have HFc := hid hf
  clear hf
  cases nb with
  | false =>
    go_enter Tryz.func61, Tryz.ntmps61
    go_wp2_with fail
    refine (HN.out _).mono ?_
    rintro e w' ⟨rfl, hb⟩
    have HB := hid (bel hb)
    clear hb
    go_wp2_with fail
    go_ret
    exact ⟨ret_bool HR.out, HB.out⟩
  | true =>
    go_enter Tryz.func61, Tryz.ntmps61
    go_wp2_with fail
    refine (HN.out _).mono ?_
    rintro e w' ⟨rfl, hb⟩
    have HB := hid (bel hb)
    have e1 : w'.cell? ⟨w.heap.size, 1, none⟩ = some (.int .i64 n) := (HFc.out _ _ hb 1).trans (by simp)
    have e2 : w'.cell? ⟨w.heap.size, 2, none⟩ = some (.int .i64 at_) := (HFc.out _ _ hb 2).trans (by simp)
    clear hb
    by_cases h1 : 0 ≤ n
    · by_cases h2 : n ≤ 1099511627775
      · by_cases h3 : 0 ≤ at_
        · by_cases h4 : at_ ≤ 0
          · go_wp2_with fail
            go_ret
            exact ⟨ret_bool (by rw [← HR.out]; first | (simp; omega) | (simp; done) | (simp [*]; done)), HB.out⟩
          · go_wp2_with fail
            go_ret
            exact ⟨ret_bool (by rw [← HR.out]; first | (simp; omega) | (simp; done) | (simp [*]; done)), HB.out⟩
        · go_wp2_with fail
          go_ret
          exact ⟨ret_bool (by rw [← HR.out]; first | (simp; omega) | (simp; done) | (simp [*]; done)), HB.out⟩
      · go_wp2_with fail
        go_ret
        exact ⟨ret_bool (by rw [← HR.out]; first | (simp; omega) | (simp; done) | (simp [*]; done)), HB.out⟩
    · go_wp2_with fail
      go_ret
      exact ⟨ret_bool (by rw [← HR.out]; first | (simp; omega) | (simp; done) | (simp [*]; done)), HB.out⟩

set_option maxHeartbeats 800000 in
theorem itemHolds_2 (n at_ : Int) (s : ByteArray) (w : World) (hs : s.size ≤ maxLen) :
    Calls Tryz.prog 61 #[.agg #[.int .i64 2, .int .i64 n, .int .i64 at_, .string s]] w fun e w' => e = .returned (.bool (nameOk s && (decide (0 ≤ n) && decide (n ≤ 0) && decide (0 ≤ at_) && decide (at_ ≤ 320)))) ∧ Below w.heap.size w w' := by
  have HN : Hid (∀ W, Calls Tryz.prog 58 #[.string s] W fun e w' => e = .returned (.bool (nameOk s)) ∧ Below W.heap.size W w') := fun W => scopeName_any s W hs
  generalize nameOk s = nb at *
  generalize hR : (nb && _) = R
  have HR := hid hR
  clear hR
  have hf : ∀ (w' : World) (o : Obj), Below (w.alloc o).heap.size (w.alloc o) w' → (∀ j, w'.cell? ⟨w.heap.size, j, none⟩ = (w.alloc o).cell? ⟨w.heap.size, j, none⟩) := fun w' o hb j => hb.cell (p := ⟨w.heap.size, j, none⟩) (by simp)
  have HFc := hid hf
  clear hf
  cases nb with
  | false =>
    go_enter Tryz.func61, Tryz.ntmps61
    go_wp2_with fail
    refine (HN.out _).mono ?_
    rintro e w' ⟨rfl, hb⟩
    have HB := hid (bel hb)
    clear hb
    go_wp2_with fail
    go_ret
    exact ⟨ret_bool HR.out, HB.out⟩
  | true =>
    go_enter Tryz.func61, Tryz.ntmps61
    go_wp2_with fail
    refine (HN.out _).mono ?_
    rintro e w' ⟨rfl, hb⟩
    have HB := hid (bel hb)
    have e1 : w'.cell? ⟨w.heap.size, 1, none⟩ = some (.int .i64 n) := (HFc.out _ _ hb 1).trans (by simp)
    have e2 : w'.cell? ⟨w.heap.size, 2, none⟩ = some (.int .i64 at_) := (HFc.out _ _ hb 2).trans (by simp)
    clear hb
    by_cases h1 : 0 ≤ n
    · by_cases h2 : n ≤ 0
      · by_cases h3 : 0 ≤ at_
        · by_cases h4 : at_ ≤ 320
          · go_wp2_with fail
            go_ret
            exact ⟨ret_bool (by rw [← HR.out]; first | (simp; omega) | (simp; done) | (simp [*]; done)), HB.out⟩
          · go_wp2_with fail
            go_ret
            exact ⟨ret_bool (by rw [← HR.out]; first | (simp; omega) | (simp; done) | (simp [*]; done)), HB.out⟩
        · go_wp2_with fail
          go_ret
          exact ⟨ret_bool (by rw [← HR.out]; first | (simp; omega) | (simp; done) | (simp [*]; done)), HB.out⟩
      · go_wp2_with fail
        go_ret
        exact ⟨ret_bool (by rw [← HR.out]; first | (simp; omega) | (simp; done) | (simp [*]; done)), HB.out⟩
    · go_wp2_with fail
      go_ret
      exact ⟨ret_bool (by rw [← HR.out]; first | (simp; omega) | (simp; done) | (simp [*]; done)), HB.out⟩

set_option maxHeartbeats 800000 in
theorem itemHolds_3 (n at_ : Int) (s : ByteArray) (w : World) (hs : s.size ≤ maxLen) :
    Calls Tryz.prog 61 #[.agg #[.int .i64 3, .int .i64 n, .int .i64 at_, .string s]] w fun e w' => e = .returned (.bool (nameOk s && (decide (1 ≤ n) && decide (n ≤ 32) && decide (0 ≤ at_) && decide (at_ ≤ 320)))) ∧ Below w.heap.size w w' := by
  have HN : Hid (∀ W, Calls Tryz.prog 58 #[.string s] W fun e w' => e = .returned (.bool (nameOk s)) ∧ Below W.heap.size W w') := fun W => scopeName_any s W hs
  generalize nameOk s = nb at *
  generalize hR : (nb && _) = R
  have HR := hid hR
  clear hR
  have hf : ∀ (w' : World) (o : Obj), Below (w.alloc o).heap.size (w.alloc o) w' → (∀ j, w'.cell? ⟨w.heap.size, j, none⟩ = (w.alloc o).cell? ⟨w.heap.size, j, none⟩) := fun w' o hb j => hb.cell (p := ⟨w.heap.size, j, none⟩) (by simp)
  have HFc := hid hf
  clear hf
  cases nb with
  | false =>
    go_enter Tryz.func61, Tryz.ntmps61
    go_wp2_with fail
    refine (HN.out _).mono ?_
    rintro e w' ⟨rfl, hb⟩
    have HB := hid (bel hb)
    clear hb
    go_wp2_with fail
    go_ret
    exact ⟨ret_bool HR.out, HB.out⟩
  | true =>
    go_enter Tryz.func61, Tryz.ntmps61
    go_wp2_with fail
    refine (HN.out _).mono ?_
    rintro e w' ⟨rfl, hb⟩
    have HB := hid (bel hb)
    have e1 : w'.cell? ⟨w.heap.size, 1, none⟩ = some (.int .i64 n) := (HFc.out _ _ hb 1).trans (by simp)
    have e2 : w'.cell? ⟨w.heap.size, 2, none⟩ = some (.int .i64 at_) := (HFc.out _ _ hb 2).trans (by simp)
    clear hb
    by_cases h1 : 1 ≤ n
    · by_cases h2 : n ≤ 32
      · by_cases h3 : 0 ≤ at_
        · by_cases h4 : at_ ≤ 320
          · go_wp2_with fail
            go_ret
            exact ⟨ret_bool (by rw [← HR.out]; first | (simp; omega) | (simp; done) | (simp [*]; done)), HB.out⟩
          · go_wp2_with fail
            go_ret
            exact ⟨ret_bool (by rw [← HR.out]; first | (simp; omega) | (simp; done) | (simp [*]; done)), HB.out⟩
        · go_wp2_with fail
          go_ret
          exact ⟨ret_bool (by rw [← HR.out]; first | (simp; omega) | (simp; done) | (simp [*]; done)), HB.out⟩
      · go_wp2_with fail
        go_ret
        exact ⟨ret_bool (by rw [← HR.out]; first | (simp; omega) | (simp; done) | (simp [*]; done)), HB.out⟩
    · go_wp2_with fail
      go_ret
      exact ⟨ret_bool (by rw [← HR.out]; first | (simp; omega) | (simp; done) | (simp [*]; done)), HB.out⟩

set_option maxHeartbeats 800000 in
theorem itemHolds_4 (n at_ : Int) (s : ByteArray) (w : World) (hs : s.size ≤ maxLen) :
    Calls Tryz.prog 61 #[.agg #[.int .i64 4, .int .i64 n, .int .i64 at_, .string s]] w fun e w' => e = .returned (.bool (nameOk s && (decide (0 ≤ n) && decide (n ≤ 3) && decide (0 ≤ at_) && decide (at_ ≤ 320)))) ∧ Below w.heap.size w w' := by
  have HN : Hid (∀ W, Calls Tryz.prog 58 #[.string s] W fun e w' => e = .returned (.bool (nameOk s)) ∧ Below W.heap.size W w') := fun W => scopeName_any s W hs
  generalize nameOk s = nb at *
  generalize hR : (nb && _) = R
  have HR := hid hR
  clear hR
  have hf : ∀ (w' : World) (o : Obj), Below (w.alloc o).heap.size (w.alloc o) w' → (∀ j, w'.cell? ⟨w.heap.size, j, none⟩ = (w.alloc o).cell? ⟨w.heap.size, j, none⟩) := fun w' o hb j => hb.cell (p := ⟨w.heap.size, j, none⟩) (by simp)
  have HFc := hid hf
  clear hf
  cases nb with
  | false =>
    go_enter Tryz.func61, Tryz.ntmps61
    go_wp2_with fail
    refine (HN.out _).mono ?_
    rintro e w' ⟨rfl, hb⟩
    have HB := hid (bel hb)
    clear hb
    go_wp2_with fail
    go_ret
    exact ⟨ret_bool HR.out, HB.out⟩
  | true =>
    go_enter Tryz.func61, Tryz.ntmps61
    go_wp2_with fail
    refine (HN.out _).mono ?_
    rintro e w' ⟨rfl, hb⟩
    have HB := hid (bel hb)
    have e1 : w'.cell? ⟨w.heap.size, 1, none⟩ = some (.int .i64 n) := (HFc.out _ _ hb 1).trans (by simp)
    have e2 : w'.cell? ⟨w.heap.size, 2, none⟩ = some (.int .i64 at_) := (HFc.out _ _ hb 2).trans (by simp)
    clear hb
    by_cases h1 : 0 ≤ n
    · by_cases h2 : n ≤ 3
      · by_cases h3 : 0 ≤ at_
        · by_cases h4 : at_ ≤ 320
          · go_wp2_with fail
            go_ret
            exact ⟨ret_bool (by rw [← HR.out]; first | (simp; omega) | (simp; done) | (simp [*]; done)), HB.out⟩
          · go_wp2_with fail
            go_ret
            exact ⟨ret_bool (by rw [← HR.out]; first | (simp; omega) | (simp; done) | (simp [*]; done)), HB.out⟩
        · go_wp2_with fail
          go_ret
          exact ⟨ret_bool (by rw [← HR.out]; first | (simp; omega) | (simp; done) | (simp [*]; done)), HB.out⟩
      · go_wp2_with fail
        go_ret
        exact ⟨ret_bool (by rw [← HR.out]; first | (simp; omega) | (simp; done) | (simp [*]; done)), HB.out⟩
    · go_wp2_with fail
      go_ret
      exact ⟨ret_bool (by rw [← HR.out]; first | (simp; omega) | (simp; done) | (simp [*]; done)), HB.out⟩

theorem itemHolds_any (i : It) (w : World) (hs : i.name.size ≤ maxLen) :
    Calls Tryz.prog 61 #[i.val] w fun e w' => e = .returned (.bool (itemOk i)) ∧ Below w.heap.size w w' := by
  obtain ⟨kind, n, at_, s⟩ := i
  by_cases k1 : kind = 1
  · subst k1
    refine (itemHolds_1 n at_ s w hs).mono fun e w' ⟨h1, h2⟩ => ⟨h1.trans (ret_bool ?_), h2⟩
    show _ = (nameOk s && numOkB ⟨1, n, at_, s⟩)
    simp only [numOkB, if_true]
    congr 1
    rw [Bool.eq_iff_iff]
    simp only [Bool.and_eq_true, decide_eq_true_eq]
    omega
  by_cases k2 : kind = 2
  · subst k2
    refine (itemHolds_2 n at_ s w hs).mono fun e w' ⟨h1, h2⟩ => ⟨h1.trans (ret_bool ?_), h2⟩
    show _ = (nameOk s && numOkB ⟨2, n, at_, s⟩)
    congr 1
    rw [Bool.eq_iff_iff]
    simp [numOkB]
    omega
  by_cases k3 : kind = 3
  · subst k3
    refine (itemHolds_3 n at_ s w hs).mono fun e w' ⟨h1, h2⟩ => ⟨h1.trans (ret_bool ?_), h2⟩
    show _ = (nameOk s && numOkB ⟨3, n, at_, s⟩)
    congr 1
  by_cases k4 : kind = 4
  · subst k4
    refine (itemHolds_4 n at_ s w hs).mono fun e w' ⟨h1, h2⟩ => ⟨h1.trans (ret_bool ?_), h2⟩
    show _ = (nameOk s && numOkB ⟨4, n, at_, s⟩)
    congr 1
  have HF : Hid (itemOk ⟨kind, n, at_, s⟩ = false) := by
    show (nameOk s && numOkB ⟨kind, n, at_, s⟩) = false
    simp [numOkB, k1, k2, k3, k4]
  have b1 : (kind == 1) = false := beq_eq_false_iff_ne.2 k1
  have b2 : (kind == 2) = false := beq_eq_false_iff_ne.2 k2
  have b3 : (kind == 3) = false := beq_eq_false_iff_ne.2 k3
  have b4 : (kind == 4) = false := beq_eq_false_iff_ne.2 k4
  clear k1 k2 k3 k4
  unfold It.val
  go_enter Tryz.func61, Tryz.ntmps61
  go_wp2_with fail
  go_ret
  exact ⟨ret_bool HF.out.symm, (Below.refl _ _).alloc (Nat.le_refl _) _⟩

/- items in memory -/
structure ItCells (w : World) (b off : Nat) (l : List It) : Prop where
  lt : b < w.heap.size
  kind : ∀ i (h : i < l.length), w.cell? ⟨b, off + i * 4, none⟩ = some (.int .i64 l[i].kind)
  num : ∀ i (h : i < l.length), w.cell? ⟨b, off + i * 4 + 1, none⟩ = some (.int .i64 l[i].n)
  at_ : ∀ i (h : i < l.length), w.cell? ⟨b, off + i * 4 + 2, none⟩ = some (.int .i64 l[i].at_)
  name : ∀ i (h : i < l.length), w.cell? ⟨b, off + i * 4 + 3, none⟩ = some (.string l[i].name)
def ItemsAt (w : World) (a : Option Addr) (l : List It) : Prop := l = [] ∨ ∃ b off, a = some ⟨b, off, none⟩ ∧ ItCells w b off l
def AllFit (l : List It) : Prop := ∀ i ∈ l, i.name.size ≤ maxLen
theorem ItCells.below {B : Nat} {w w' : World} {b off : Nat} {l : List It} (h : ItCells w b off l) (hb : Below B w w') (hB : b < B) : ItCells w' b off l :=
  ⟨Nat.lt_of_lt_of_le h.lt hb.size, fun i hi => (hb.cell (p := ⟨b, off + i * 4, none⟩) hB).trans (h.kind i hi), fun i hi => (hb.cell (p := ⟨b, off + i * 4 + 1, none⟩) hB).trans (h.num i hi), fun i hi => (hb.cell (p := ⟨b, off + i * 4 + 2, none⟩) hB).trans (h.at_ i hi), fun i hi => (hb.cell (p := ⟨b, off + i * 4 + 3, none⟩) hB).trans (h.name i hi)⟩
theorem ItemsAt.later {w w' : World} {a : Option Addr} {l : List It} (h : ItemsAt w a l) (hb : Below w.heap.size w w') : ItemsAt w' a l := by
  rcases h with h | ⟨b, off, e, h⟩
  · exact Or.inl h
  · exact Or.inr ⟨b, off, e, h.below hb h.lt⟩
theorem ItemsAt.place {w : World} {a : Option Addr} {l : List It} (h : ItemsAt w a l) {k : Nat} (hk : k < l.length) : ∃ b off, a = some ⟨b, off, none⟩ ∧ b < w.heap.size ∧ w.cell? ⟨b, off + k * 4, none⟩ = some (.int .i64 l[k].kind) ∧ w.cell? ⟨b, off + k * 4 + 1, none⟩ = some (.int .i64 l[k].n) ∧ w.cell? ⟨b, off + k * 4 + 2, none⟩ = some (.int .i64 l[k].at_) ∧ w.cell? ⟨b, off + k * 4 + 3, none⟩ = some (.string l[k].name) := by
  rcases h with h | ⟨b, off, e, h⟩
  · subst h; simp at hk
  · exact ⟨b, off, e, h.lt, h.kind k hk, h.num k hk, h.at_ k hk, h.name k hk⟩

end Fx
end Go.Proofs.YtndkhgakfodldaaGreatDoor

namespace Go.Proofs.YtndkhgakfodldaaGreatDoor
namespace Fx
open Go.RowKit Go.Shelf Go.Maps
set_option maxRecDepth 100000

theorem info9 : (Tryz.prog.info? 9).map (fun i => (i.zero, i.size, i.bytes)) = some (some (.string ⟨#[]⟩), 1, 16) := by kernel_rfl
def strs (l : List It) : List Value := l.map (fun i => .string i.name)
theorem strs_snoc (l : List It) (i : It) : strs l ++ [.string i.name] = strs (l ++ [i]) := by simp [strs]
theorem take_succ {α : Type} (l : List α) (k : Nat) (h : k < l.length) : l.take (k + 1) = l.take k ++ [l[k]] := List.take_succ_eq_append_getElem h
theorem take_all {α : Type} (l : List α) : l.take l.length = l := List.take_of_length_le (Nat.le_refl _)

theorem ownsRow_later {W W' : World} {B : Nat} {e : TypeId} {size : Nat} {v : Value} {n : Nat} {xs : List Value} (h : W.ownsRow B e size v n xs) (hb : Below W.heap.size W W') : W'.ownsRow B e size v n xs := by
  refine ⟨h.1, ?_⟩
  rcases h.2 with h1 | ⟨g, cap, cur, hv, hB, hg, hr⟩
  · exact Or.inl h1
  · have hlt : g < W.heap.size := by
      rcases Nat.lt_or_ge g W.heap.size with h' | h'
      · exact h'
      · simp [Array.getElem?_eq_none h'] at hg
    exact Or.inr ⟨g, cap, cur, hv, hB, (hb.block g hlt).trans hg, hr⟩

theorem cell_one_at {w : World} {x : Value} {t : TypeId} {n : Nat} (hn : n = w.heap.size) : ∀ j u, [x][j]? = some u → (w.alloc (.cells #[x] t)).cell? ((⟨n, 0, none⟩ : Addr).add j) = some u := by
  subst hn
  exact cell_one_new _ _ _

set_option maxHeartbeats 800000 in
theorem itemNames_any (a : Option Addr) (cap : Nat) (l : List It) (w : World) (hT : ItemsAt w a l) (hl : l.length ≤ 1000000) :
    Calls Tryz.prog 60 #[.slice a l.length cap] w fun e w' => ∃ v, e = .returned v ∧ w'.ownsRow w.heap.size 9 1 v l.length (strs l) ∧ Below w.heap.size w w' := by
  obtain ⟨i0, hi, hz0, hz1, hz2⟩ := info_parts info9
  have HT := hid hT
  clear hT
  go_enter Tryz.func60, Tryz.ntmps60
  go_wp2_with fail
  go_loopw [3, 5, 8] (fun v _ i wr => ∃ k : Nat, k ≤ l.length ∧ i = .int .i64 k ∧ wr.ownsRow w.heap.size 9 1 v k (strs (l.take k)) ∧ Below w.heap.size w wr) (fun _ _ i _ => l.length - (intOf i).toNat)
  case atStart => exact ⟨0, Nat.zero_le _, rfl, World.ownsRow_nil _ _ _ _, Below.refl _ _⟩
  case round =>
    obtain ⟨k, hk, rfl, hown, hb⟩ := hrel
    have HO := hid hown
    have HB := hid hb
    by_cases hlt : k < l.length
    · obtain ⟨b, off, rfl, hbl, c0, c1, c2, c3⟩ := (HT.out.later hb).place hlt
      have HS : Hid (strs (l.take k) ++ [.string l[k].name] = strs (l.take (k + 1))) := by rw [take_succ l k hlt]; exact strs_snoc _ _
      clear hown hb
      go_wp2_with (at_builtin; refine wpList_append_lies _ rfl _ _ _ rfl w.heap.size 9 i0 _ 1 16 Tryz.underlying22 hi hz0 hz1 hz2 rfl (by omega) _ k (strs (l.take k)) rfl (ownsRow_later HO.out (((Below.refl _ _).alloc (Nat.le_refl _) _).alloc (by simp) _)) ⟨_, 0, none⟩ 1 1 [.string l[k].name] rfl rfl (cell_one_at (by simp)) (by simp; rfl) (by omega) (by unfold maxLen; omega) (by omega) (by have := HB.out.size; simp; omega) _ rfl ?_; intro q2 cap2 w1 hown1 hg hat hlt2; have HO1 := hid hown1; have HG := hid hg; clear hown1 hg hat)
      go_roundw
      case rel => exact ⟨k + 1, by omega, by go_num, by rw [← HS.out]; exact HO1.out, ((HB.out.alloc HB.out.size _).alloc (by have := HB.out.size; simp; omega) _).grown HG.out (by have := HB.out.size; simp; omega) (fun j hj => (HO.out.lt j hj).1)⟩
      case measure => simp [intOf]; omega
    · obtain rfl : k = l.length := by omega
      clear hown hb
      go_wp2_with fail
      go_ret
      exact ⟨_, rfl, by have := HO.out; rw [take_all] at this; exact this, HB.out⟩

end Fx
end Go.Proofs.YtndkhgakfodldaaGreatDoor
