/-
  The writer: its list of tokens in memory; put and number.
-/
import Derived.Test.YtcekpobmbmnplaaGreatDoorQe
import Derived.Test.YtcekpobmbmnplaaGreatDoorQc
namespace Go.Proofs.YtcekpobmbmnplaaGreatDoor
open Go.RowKit Go.Shelf

theorem put_grownP (w : World) (b j : Nat) (u : Value) : w.grownBy (w.setCell ⟨b, j, Option.none⟩ u) (Option.some b) :=
  ⟨rfl, rfl, rfl, by simp [World.setCell], fun k _ hk => Below.heap_setCell _ _ _ _ (fun e => hk (congrArg Option.some e))⟩
/- The writer in block b: v is its list, ts the tokens in it. -/
structure Wr (b : Nat) (ts : List Tk) (v : Value) (W : World) : Prop where
  cell : W.heap[b]? = some (.cells #[v] 102 (0, 0))
  row : W.ownsRow 0 68 3 v ts.length (cellsOf ts)
  ne : v.ownBlock ≠ some b
  fit : AllFit ts
/- What is neither the writer's block nor its list's. -/
def Off (b : Nat) (v : Value) (k : Nat) : Prop := k ≠ b ∧ v.ownBlock ≠ some k
/- What a call of the writer leaves: all that is off it stays; its list lies where it lay, or in a new block. -/
structure WK (b : Nat) (v v' : Value) (W W' : World) : Prop where
  os : W'.os = W.os
  tape : W'.tape = W.tape
  output : W'.output = W.output
  size : W.heap.size ≤ W'.heap.size
  block : ∀ k, k < W.heap.size → Off b v k → W'.heap[k]? = W.heap[k]?
  own : ∀ k, v'.ownBlock = some k → v.ownBlock = some k ∨ W.heap.size ≤ k
section
variable {b : Nat} {v v' v'' : Value} {W W' W'' : World}
theorem WK.refl (b : Nat) (v : Value) (W : World) : WK b v v W W := ⟨rfl, rfl, rfl, Nat.le_refl _, fun _ _ _ => rfl, fun _ h => Or.inl h⟩
theorem WK.off (h : WK b v v' W W') {k : Nat} (hk : k < W.heap.size) (ho : Off b v k) : Off b v' k := ⟨ho.1, fun e => by
  rcases h.own k e with h1 | h1
  · exact ho.2 h1
  · omega⟩
theorem WK.trans (h : WK b v v' W W') (k : WK b v' v'' W' W'') : WK b v v'' W W'' where
  os := k.os.trans h.os
  tape := k.tape.trans h.tape
  output := k.output.trans h.output
  size := Nat.le_trans h.size k.size
  block := fun i hi ho => (k.block i (Nat.lt_of_lt_of_le hi h.size) (h.off hi ho)).trans (h.block i hi ho)
  own := fun i hi => by
    rcases k.own i hi with h1 | h1
    · exact h.own i h1
    · exact Or.inr (Nat.le_trans h.size h1)
theorem WK.of_below (hb : Below W.heap.size W W') (b : Nat) (v : Value) : WK b v v W W' := ⟨hb.os, hb.tape, hb.output, hb.size, fun k hk _ => hb.block k hk, fun _ h => Or.inl h⟩
theorem WK.alloc (h : WK b v v' W W') (o : Obj) : WK b v v' W (W'.alloc o) := h.trans (WK.of_below (al1 _ _) b v')
theorem WK.moves (h : WK b v v' W W') : Moves W (Off b v) W' (Off b v') := ⟨h.size, fun k hk ho => ⟨h.off hk ho, h.block k hk ho⟩⟩
theorem WK.cell (h : WK b v v' W W') {k off : Nat} (hk : k < W.heap.size) (ho : Off b v k) : W'.cell? ⟨k, off, none⟩ = W.cell? ⟨k, off, none⟩ := World.cell?_of_block (w := W) (h.block k hk ho)
theorem Wr.later {ts : List Tk} (h : Wr b ts v W) (hb : Below W.heap.size W W') : Wr b ts v W' := ⟨(hb.block b (lt_of_heap h.cell)).trans h.cell, ownsRow_later h.row hb, h.ne, h.fit⟩
theorem Wr.alloc {ts : List Tk} (h : Wr b ts v W) (o : Obj) : Wr b ts v (W.alloc o) := h.later (al1 _ _)
theorem Wr.lt {ts : List Tk} (h : Wr b ts v W) : b < W.heap.size := lt_of_heap h.cell
theorem Wr.own {ts : List Tk} (h : Wr b ts v W) {k : Nat} (hk : W.heap.size ≤ k) : Off b v k := ⟨by have := h.lt; omega, fun e => by have := (h.row.lt k e).2; omega⟩
theorem Wr.read {ts : List Tk} (h : Wr b ts v W) : W.cell? ⟨b, 0, none⟩ = some v ∧ W.frozen? ⟨b, 0, none⟩ = false := by
  refine ⟨by rw [Lib.cell_of_heap h.cell]; rfl, ?_⟩
  unfold World.frozen?
  simp only
  rw [h.cell]
  simp
theorem Wr.shape {ts : List Tk} (h : Wr b ts v W) : ∃ a cap, v = .slice a ts.length cap := by
  rcases h.row.2 with ⟨h1, h2⟩ | ⟨g, cap, cur, h1, _⟩
  · exact ⟨none, 0, by rw [h2]; exact h1⟩
  · exact ⟨_, _, h1⟩
/- behind an append and the store of what it made -/
theorem Wr.put {ts : List Tk} {t : Tk} {g cp : Nat} (h : Wr b ts v W) (hf : t.fits) (hg : W.grownBy W' v.ownBlock) (hat : v.ownBlock = some g ∨ W.heap.size ≤ g) (ho : W'.ownsRow 0 68 3 (.slice (some ⟨g, 0, none⟩) (ts.length + 1) cp) (ts.length + 1) (cellsOf ts ++ tkCells t)) :
    Wr b (ts ++ [t]) (.slice (some ⟨g, 0, none⟩) (ts.length + 1) cp) (W'.setCell ⟨b, 0, none⟩ (.slice (some ⟨g, 0, none⟩) (ts.length + 1) cp)) ∧ WK b v (.slice (some ⟨g, 0, none⟩) (ts.length + 1) cp) W (W'.setCell ⟨b, 0, none⟩ (.slice (some ⟨g, 0, none⟩) (ts.length + 1) cp)) := by
  have hlt := h.lt
  have hgb : g ≠ b := by
    rcases hat with h1 | h1
    · intro e; exact h.ne (by rw [h1, e])
    · omega
  have hcb : W'.heap[b]? = some (.cells #[v] 102 (0, 0)) := (hg.block b hlt (fun e => h.ne e.symm)).trans h.cell
  refine ⟨⟨heap_set hcb _, ?_, by simp [Value.ownBlock]; exact hgb, ?_⟩, ⟨hg.os, hg.tape, hg.output, by rw [World.size_setCell]; exact hg.size, fun k hk hoff => ?_, fun k hk => ?_⟩⟩
  · rw [cellsOf_snoc, List.length_append]
    exact ho.kept (put_grownP _ _ _ _) (Or.inr (by simp [Value.ownBlock]; exact hgb))
  · intro i hi
    rw [List.length_append] at hi
    simp at hi
    rcases Nat.lt_or_ge i ts.length with h1 | h1
    · rw [List.getElem_append_left h1]; exact h.fit i h1
    · rw [List.getElem_append_right h1]
      simpa using hf
  · rw [heap_set_ne (by show k ≠ b; exact hoff.1)]
    exact hg.block k hk (fun e => hoff.2 e.symm)
  · have e : g = k := by simpa [Value.ownBlock] using hk
    subst e
    rcases hat with h1 | h1
    · exact Or.inl h1
    · exact Or.inr (by omega)
end
/- the token that put makes of a text -/
def pTk (t : ByteArray) : Tk := ⟨if Lx.headLet t.data.toList then 1 else 3, 0, t⟩
set_option maxRecDepth 100000 in
set_option maxHeartbeats 1600000 in
theorem number_any_w (b : Nat) (ts : List Tk) (v : Value) (n : Int) (W : World) (h : Wr b ts v W) (hl : ts.length + 1 ≤ 4000000000000) :
    Calls Tryz.prog 99 #[.pointer (some ⟨b, 0, none⟩), .int .i64 n] W fun e W' => ∃ v', e = .returned (.tuple #[]) ∧ Wr b (ts ++ [nTk n]) v' W' ∧ WK b v v' W W' := by
  obtain ⟨i0, hi, hz0, hz1, hz2⟩ := info_parts Tryz.infoTok
  have HW := hid h
  obtain ⟨c0, f0⟩ := h.read
  have hlt := h.lt
  obtain ⟨a, cap, rfl⟩ := h.shape
  have HRow := hid h.row
  clear h
  go_enter Tryz.func99, Tryz.ntmps99
  go_wp2_with (at_builtin; refine wpList_append_lies _ rfl _ _ 38 rfl 0 68 i0 _ 3 32 Tryz.underlying38 hi hz0 hz1 hz2 rfl (by decide) _ ts.length (cellsOf ts) rfl (HRow.out.alloc _) ⟨W.heap.size, 0, none⟩ 1 1 (tkCells (nTk n)) rfl rfl (three_new _ _ _ _ _) (three_one _) (by omega) (by unfold maxLen; omega) (by omega) (by simp) _ rfl ?_; intro gb cp w8 hown8 hg8 hat8 hlt8; have hg : W.grownBy w8 (Value.slice a ts.length cap).ownBlock := (World.grownBy_alloc W _ _).trans hg8; have c8 : w8.cell? ⟨b, 0, none⟩ = some (.slice a ts.length cap) := (hg.cell_far ⟨b, 0, none⟩ hlt (fun e => HW.out.ne e.symm)).trans c0; have f8 : w8.frozen? ⟨b, 0, none⟩ = false := (hg.frozen_far ⟨b, 0, none⟩ hlt (fun e => HW.out.ne e.symm)).trans f0; have hq8 : b < w8.heap.size := Nat.lt_of_lt_of_le hlt hg.size)
  go_end0
  obtain ⟨h1, h2⟩ := HW.out.put (t := nTk n) (by show (⟨#[]⟩ : ByteArray).size ≤ maxLen; unfold maxLen; decide) hg (by
    rcases hat8 with h | h
    · exact Or.inl h
    · exact Or.inr (by simp at h; omega)) hown8
  exact ⟨_, rfl, h1, h2⟩
set_option maxRecDepth 100000 in
set_option maxHeartbeats 1600000 in
theorem put_any (b g c : Nat) (texts : List ByteArray) (ts : List Tk) (v : Value) (W : World) (h : Wr b ts v W) (hg : g < W.heap.size) (ho : Off b v g) (hc : ∀ i (h : i < texts.length), W.cell? ⟨g, i, none⟩ = some (.string texts[i])) (hp : ∀ t ∈ texts, 0 < t.size ∧ t.size ≤ maxLen) (hn : texts.length ≤ 100) (hl : ts.length + texts.length ≤ 4000000000000) :
    Calls Tryz.prog 59 #[.pointer (some ⟨b, 0, none⟩), .slice (some ⟨g, 0, none⟩) texts.length c] W fun e W' => ∃ v', e = .returned (.tuple #[]) ∧ Wr b (ts ++ texts.map pTk) v' W' ∧ WK b v v' W W' := by
  obtain ⟨i0, hi, hz0, hz1, hz2⟩ := info_parts Tryz.infoTok
  have HW := hid h
  have HO := hid ho
  have HC := hid hc
  have HP := hid hp
  clear h ho hc hp
  go_enter Tryz.func59, Tryz.ntmps59
  go_wp2_with fail
  go_loopw [9, 5, 6] (fun i _ _ wr => ∃ (k : Nat) (vr : Value), k ≤ texts.length ∧ i = .int .i64 k ∧ Wr b (ts ++ (texts.take k).map pTk) vr wr ∧ WK b v vr W wr) (fun i _ _ _ => texts.length - (intOf i).toNat)
  case atStart => exact ⟨0, v, Nat.zero_le _, rfl, by simpa using HW.out, WK.refl _ _ _⟩
  case round =>
    obtain ⟨k, vr, hk, rfl, hW, hK⟩ := hrel
    have HWr := hid hW
    have HK := hid hK
    obtain ⟨c0, f0⟩ := hW.read
    have hlt := hW.lt
    obtain ⟨a, cap, rfl⟩ := hW.shape
    have hlen : (ts ++ (texts.take k).map pTk).length = ts.length + k := by simp; omega
    have HRow := hid hW.row
    rw [hlen] at HRow c0
    by_cases hkl : k < texts.length
    · have hgc := (hK.cell (off := k) hg HO.out).trans (HC.out k hkl)
      obtain ⟨hp0, hp1⟩ := HP.out texts[k] (List.getElem_mem hkl)
      have hgz : g < wr.heap.size := Nat.lt_of_lt_of_le hg hK.size
      have HT : Hid ((texts.take (k + 1)).map pTk = (texts.take k).map pTk ++ [pTk texts[k]]) := by
        show _ = _
        rw [List.take_succ_eq_append_getElem hkl, List.map_append]; rfl
      have hhd : texts[k].data.toList.head? = some texts[k][0] := by
        rw [List.head?_eq_getElem?]
        simp [hp0]
        rfl
      clear hW hK
      generalize htt : texts[k] = t at *
      have HH : Hid (Lx.headLet t.data.toList = Lx.letB t[0]) := by
        show _ = _
        cases hd : t.data.toList with
        | nil => rw [hd] at hhd; cases hhd
        | cons x r =>
          rw [hd] at hhd
          cases hhd
          rfl
      have HNe : Hid ((Value.slice a (ts.length + k) cap).ownBlock ≠ some b) := by
        show _ ≠ _
        rw [← hlen]; exact HWr.out.ne
      rw [hlen] at HWr HK
      by_cases hge : (97 : Int) ≤ ((t[0].toNat : Nat) : Int)
      · by_cases hle : ((t[0].toNat : Nat) : Int) ≤ 122
        · skip
          have HKd : Hid (pTk t = ⟨1, 0, t⟩) := by
            show _ = _
            unfold pTk
            rw [HH.out]
            simp [Lx.letB, hge, hle]
          go_wp2_with (at_builtin; refine wpList_append_lies _ rfl _ _ 38 rfl 0 68 i0 _ 3 32 Tryz.underlying38 hi hz0 hz1 hz2 rfl (by decide) _ (ts.length + k) (cellsOf (ts ++ (texts.take k).map pTk)) rfl (HRow.out.alloc _) ⟨wr.heap.size, 0, none⟩ 1 1 (tkCells ⟨1, 0, t⟩) rfl rfl (three_new _ _ _ _ _) (three_one _) (by omega) (by unfold maxLen; omega) (by omega) (by simp) _ rfl ?_; intro gb cp w8 hown8 hg8 hat8 hlt8; have hg : wr.grownBy w8 (Value.slice a (ts.length + k) cap).ownBlock := (World.grownBy_alloc wr _ _).trans hg8; have c8 : w8.cell? ⟨b, 0, none⟩ = some (.slice a (ts.length + k) cap) := (hg.cell_far ⟨b, 0, none⟩ hlt (fun e => HNe.out e.symm)).trans c0; have f8 : w8.frozen? ⟨b, 0, none⟩ = false := (hg.frozen_far ⟨b, 0, none⟩ hlt (fun e => HNe.out e.symm)).trans f0; have hq8 : b < w8.heap.size := Nat.lt_of_lt_of_le hlt hg.size)
          obtain ⟨h1, h2⟩ := HWr.out.put (t := ⟨1, 0, t⟩) hp1 hg (by
            rcases hat8 with h | h
            · exact Or.inl h
            · exact Or.inr (by simp at h; omega)) (by rw [hlen]; exact hown8)
          rw [hlen] at h1 h2
          have H1 := hid h1
          have H2 := hid (HK.out.trans h2)
          clear h1 h2 hown8 hg8 hat8 hg c8 f8
          go_roundw
          case rel => exact ⟨k + 1, _, by omega, by go_num, by rw [HT.out, ← List.append_assoc, HKd.out]; exact H1.out, H2.out⟩
          case measure => simp [intOf]; omega
        · skip
          have HKd : Hid (pTk t = ⟨3, 0, t⟩) := by
            show _ = _
            unfold pTk
            rw [HH.out]
            simp [Lx.letB, hge, hle]
          go_wp2_with (at_builtin; refine wpList_append_lies _ rfl _ _ 38 rfl 0 68 i0 _ 3 32 Tryz.underlying38 hi hz0 hz1 hz2 rfl (by decide) _ (ts.length + k) (cellsOf (ts ++ (texts.take k).map pTk)) rfl (HRow.out.alloc _) ⟨wr.heap.size, 0, none⟩ 1 1 (tkCells ⟨3, 0, t⟩) rfl rfl (three_new _ _ _ _ _) (three_one _) (by omega) (by unfold maxLen; omega) (by omega) (by simp) _ rfl ?_; intro gb cp w8 hown8 hg8 hat8 hlt8; have hg : wr.grownBy w8 (Value.slice a (ts.length + k) cap).ownBlock := (World.grownBy_alloc wr _ _).trans hg8; have c8 : w8.cell? ⟨b, 0, none⟩ = some (.slice a (ts.length + k) cap) := (hg.cell_far ⟨b, 0, none⟩ hlt (fun e => HNe.out e.symm)).trans c0; have f8 : w8.frozen? ⟨b, 0, none⟩ = false := (hg.frozen_far ⟨b, 0, none⟩ hlt (fun e => HNe.out e.symm)).trans f0; have hq8 : b < w8.heap.size := Nat.lt_of_lt_of_le hlt hg.size)
          obtain ⟨h1, h2⟩ := HWr.out.put (t := ⟨3, 0, t⟩) hp1 hg (by
            rcases hat8 with h | h
            · exact Or.inl h
            · exact Or.inr (by simp at h; omega)) (by rw [hlen]; exact hown8)
          rw [hlen] at h1 h2
          have H1 := hid h1
          have H2 := hid (HK.out.trans h2)
          clear h1 h2 hown8 hg8 hat8 hg c8 f8
          go_roundw
          case rel => exact ⟨k + 1, _, by omega, by go_num, by rw [HT.out, ← List.append_assoc, HKd.out]; exact H1.out, H2.out⟩
          case measure => simp [intOf]; omega
      · skip
        have HKd : Hid (pTk t = ⟨3, 0, t⟩) := by
          show _ = _
          unfold pTk
          rw [HH.out]
          simp [Lx.letB, hge]
        go_wp2_with (at_builtin; refine wpList_append_lies _ rfl _ _ 38 rfl 0 68 i0 _ 3 32 Tryz.underlying38 hi hz0 hz1 hz2 rfl (by decide) _ (ts.length + k) (cellsOf (ts ++ (texts.take k).map pTk)) rfl (HRow.out.alloc _) ⟨wr.heap.size, 0, none⟩ 1 1 (tkCells ⟨3, 0, t⟩) rfl rfl (three_new _ _ _ _ _) (three_one _) (by omega) (by unfold maxLen; omega) (by omega) (by simp) _ rfl ?_; intro gb cp w8 hown8 hg8 hat8 hlt8; have hg : wr.grownBy w8 (Value.slice a (ts.length + k) cap).ownBlock := (World.grownBy_alloc wr _ _).trans hg8; have c8 : w8.cell? ⟨b, 0, none⟩ = some (.slice a (ts.length + k) cap) := (hg.cell_far ⟨b, 0, none⟩ hlt (fun e => HNe.out e.symm)).trans c0; have f8 : w8.frozen? ⟨b, 0, none⟩ = false := (hg.frozen_far ⟨b, 0, none⟩ hlt (fun e => HNe.out e.symm)).trans f0; have hq8 : b < w8.heap.size := Nat.lt_of_lt_of_le hlt hg.size)
        obtain ⟨h1, h2⟩ := HWr.out.put (t := ⟨3, 0, t⟩) hp1 hg (by
          rcases hat8 with h | h
          · exact Or.inl h
          · exact Or.inr (by simp at h; omega)) (by rw [hlen]; exact hown8)
        rw [hlen] at h1 h2
        have H1 := hid h1
        have H2 := hid (HK.out.trans h2)
        clear h1 h2 hown8 hg8 hat8 hg c8 f8
        go_roundw
        case rel => exact ⟨k + 1, _, by omega, by go_num, by rw [HT.out, ← List.append_assoc, HKd.out]; exact H1.out, H2.out⟩
        case measure => simp [intOf]; omega
    · have hke : k = texts.length := by omega
      subst hke
      have HF : Hid (Wr b (ts ++ texts.map pTk) (.slice a (ts ++ (texts.take texts.length).map pTk).length cap) wr) := by
        have := HWr.out
        rw [List.take_length] at this ⊢
        exact this
      clear hW hK c0
      go_wp2_with fail
      go_end0
      exact ⟨_, rfl, HF.out, HK.out⟩
end Go.Proofs.YtcekpobmbmnplaaGreatDoor
