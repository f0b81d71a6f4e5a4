/-
  What one needs: the law without the document's answer.
-/
import Derived.Test.YtplkbngnnaogkaaOh
import Derived.Laws.MakeOwn
import Derived.OwnWalk
import Derived.BigRegion
namespace Go.Proofs.Ytplkbngnnaogkaa
open Go.RowKit Go.Maps Go.Sort Go.WideMaps

/- a row of bools -/
structure BRow (w : World) (g n : Nat) (f : Nat → Bool) : Prop where
  lt : g < w.heap.size
  cell : ∀ i, i < n → w.cell? ⟨g, i, none⟩ = some (.bool (f i))
  fz : ∀ i, i < n → w.frozen? ⟨g, i, none⟩ = false
theorem BRow.later {w w' : World} {g n : Nat} {f : Nat → Bool} (h : BRow w g n f) (hb : Below w.heap.size w w') : BRow w' g n f :=
  have hb' := hb.block g h.lt
  ⟨Nat.lt_of_lt_of_le h.lt hb.size, fun i hi => (World.cell?_of_block (a := ⟨g, i, none⟩) hb').trans (h.cell i hi), fun i hi => (World.frozen?_of_block (a := ⟨g, i, none⟩) hb').trans (h.fz i hi)⟩
theorem BRow.congr {w : World} {g n : Nat} {f f' : Nat → Bool} (h : BRow w g n f) (e : ∀ i, i < n → f i = f' i) : BRow w g n f' := ⟨h.lt, fun i hi => by rw [← e i hi]; exact h.cell i hi, h.fz⟩
theorem BRow.set {w : World} {g n : Nat} {f : Nat → Bool} (h : BRow w g n f) (j : Nat) (hj : j < n) (b : Bool) : BRow (w.setCell ⟨g, j, none⟩ (.bool b)) g n (fun i => if i = j then b else f i) := by
  refine ⟨by simpa using h.lt, fun i hi => ?_, fun i hi => ?_⟩
  · by_cases e : i = j
    · subst e
      simp only [if_true]
      exact World.cell?_setCell_same _ _ _ (h.cell i hj)
    · simp only [if_neg e]
      exact (World.cell?_setCell_other _ _ _ _ (by simp <;> omega)).trans (h.cell i hi)
  · simpa using h.fz i hi
theorem BRow.put {w : World} {g n : Nat} {f f' : Nat → Bool} (h : BRow w g n f) (j : Nat) (hj : j < n) (b : Bool) (e : ∀ i, i < n → (if i = j then b else f i) = f' i) : BRow ((w.setCell ⟨g, j, none⟩ (.bool b)).drew) g n f' :=
  have t := (h.set j hj b).congr e
  ⟨t.lt, t.cell, t.fz⟩
theorem below_set {B g q : Nat} {w wr : World} {u : Value} (h : Below B w wr) (hg : B ≤ g) : Below B w ((wr.setCell ⟨g, q, none⟩ u).drew) :=
  ⟨h.os, h.tape, h.output, by simpa using h.size, fun k hk => (Below.heap_setCell wr _ u k (by show k ≠ g; omega)).trans (h.block k hk)⟩
def fls (d : Nat) : Array Value := madeCells #[.bool false] d
theorem fls_get (d i : Nat) (h : i < d) : (fls d)[i]? = some (.bool false) := by
  simp [fls, madeCells, h, Nat.mod_one]
theorem Try.infoBool : (Try.prog.info? 4).map (fun i => (i.zero, i.size, i.bytes)) = some (some (.bool false), 1, 1) := by kernel_rfl
theorem make_fls (d : Nat) (hd : d ≤ 2048) (w : World) : (Instr.makeSlice 41 (.int .i64 (d : Int)) (.int .i64 (d : Int))).run Try.prog w = .ok (.slice (some ⟨w.heap.size, 0, none⟩) d d) (w.alloc (.cells (fls d) 4)) := by
  obtain ⟨i0, hi, hz0, hz1, hz2⟩ := info_parts Try.infoBool
  have := run_make (P := Try.prog) w 41 4 i0 _ Try.underlying41 hi hz0 .i64 .i64 (d : Int) (d : Int) (by omega) (by omega) (by rw [hz2]; omega) (by omega)
  rw [this, hz1, Nat.mul_one, Int.toNat_natCast]
  rfl
theorem fls_row (w : World) (d : Nat) : BRow (w.alloc (.cells (fls d) 4)) w.heap.size d (fun _ => false) := by
  have hn := heap_new w (.cells (fls d) 4)
  refine ⟨by simp, fun i hi => ?_, fun i hi => ?_⟩
  · rw [Lib.cell_of_heap hn, fls_get d i hi]
  · unfold World.frozen?
    simp only
    rw [hn]
    simp
/- which of a list are among others; the first j of them are asked for one more -/
def inP (l P : List Nm) (i : Nat) : Bool := P.contains (l.getD i [])
def inQ (l P : List Nm) (u : Nm) (j i : Nat) : Bool := P.contains (l.getD i []) || (decide (i < j) && (l.getD i [] == u))
theorem inQ_zero (l P : List Nm) (u : Nm) (i : Nat) : inP l P i = inQ l P u 0 i := by simp [inQ, inP]
theorem inQ_end (l P : List Nm) (u : Nm) (j i : Nat) (h : i < j) : inQ l P u j i = inP l (P ++ [u]) i := by
  simp only [inQ, inP, h, decide_true, Bool.true_and, List.contains_append, List.contains_cons, List.contains_nil, Bool.or_false]
theorem inQ_step (l P : List Nm) (u : Nm) (j i : Nat) : (if i = j then (inQ l P u j j || (l.getD j [] == u)) else inQ l P u j i) = inQ l P u (j + 1) i := by
  by_cases e : i = j
  · subst e
    simp [inQ]
  · rw [if_neg e]
    unfold inQ
    rw [show decide (i < j) = decide (i < j + 1) from by rw [Bool.eq_iff_iff]; simp; omega]
theorem all_used {L : List Mo} {x : Nm} {l P : List Nm} (h : NeedsIs L x l) (hn : (nmL L).Nodup) (hx : x ∈ nmL L) (hP : ∀ k (h : k < L.length), (L[k].name.data.toList = x ∨ L[k].name.data.toList ∈ l) → ∀ u ∈ L[k].uses, u.data.toList ∈ P) : ∀ q, q < l.length → inP l P q = true := fun q hq => by
  obtain ⟨c, hc, hm⟩ := h.need.user (List.getElem_mem hq)
  have hcL : c ∈ nmL L := hc.elim (fun e => e ▸ hx) (fun e => h.mem c e)
  rw [uL_at hn hcL] at hm
  obtain ⟨u, hu, e⟩ := List.mem_map.1 hm
  have := hP _ (ix_lt hcL) (by rw [ix_name hcL]; exact hc) u hu
  rw [e] at this
  simpa [inP, hq] using this
theorem uses_need {L : List Mo} {x : Nm} {l : List Nm} (h : NeedsIs L x l) (hn : (nmL L).Nodup) (_hx : x ∈ nmL L) {j : Nat} (hj : j < L.length) (hm : L[j].name.data.toList = x ∨ L[j].name.data.toList ∈ l) : ∀ u ∈ L[j].uses, u.data.toList ∈ l := fun u hu => by
  have hg : j < (gL L).length := by simp [gL]; exact hj
  have e : uL L L[j].name.data.toList = L[j].uses.map (fun u => u.data.toList) := by
    have := Og.useOf_at (L := gL L) (by rw [names_gL]; exact hn) j hg
    simpa [gL, gmOf, uL] using this
  have hin : u.data.toList ∈ uL L L[j].name.data.toList := by rw [e]; exact List.mem_map.2 ⟨u, hu, rfl⟩
  rcases hm with hm | hm
  · rw [hm] at hin; exact h.need.mine _ hin
  · exact h.need.theirs _ hm _ hin
set_option maxRecDepth 100000 in
set_option maxHeartbeats 3200000 in
theorem OrderNeeds_any (L : List Mo) (a : Option Addr) (cap : Nat) (x : ByteArray) (n : Int) (w : World) (hD : DAt w Tt a L.length (mosD L)) (hx : x.size ≤ maxLen) (hn0 : -9223372036854775808 ≤ n) (hn1 : n ≤ 9223372036854775807) :
    Calls Try.prog 5 #[.slice a L.length cap, .string x, .int .i64 n] w fun e w' => e = .returned (.bool true) ∧ Below w.heap.size w w' := by
  have hbd := hD.bound
  have HD := hid hD
  clear hD
  go_enter Try.func5, Try.ntmps5
  go_wp2_with fail
  refine (Needs_any L a cap x _ HD.out hx).mono ?_
  rintro e w1 ⟨hs, hb1⟩
  rcases hs with ⟨he, rfl⟩ | ⟨_, _, rfl⟩ | ⟨l, v, he, hin, hN, rfl, hV⟩
  · have hne : (ordE L == 0) = false := by simpa using he
    go_wp2_with fail
    refine (orderBegun_any _).mono ?_
    rintro e w2 ⟨rfl, hb2⟩
    go_wp2_with fail
    go_ret
    exact ⟨rfl, thenB hb1 hb2⟩
  · go_wp2_with fail
    refine (orderBegun_any _).mono ?_
    rintro e w2 ⟨rfl, hb2⟩
    go_wp2_with fail
    go_ret
    exact ⟨rfl, thenB hb1 hb2⟩
  obtain ⟨h4, _, hnd, hu⟩ := ordE_zero he
  have hl4 : l.length ≤ 4 := by have := len_le l (nmL L) hN.need.nodup hN.mem; rw [nmL_len] at this; omega
  have HN := hid hN
  have HV := hid hV
  obtain ⟨va, vc, rfl, hvx⟩ := hV
  have hmk := make_fls l.length (by omega) w1
  have HB0 : Hid (BRow (w1.alloc (.cells (fls l.length) 4)) w1.heap.size l.length (inP l [])) := (fls_row w1 l.length).congr (fun i _ => by simp [inP])
  have HE := hid he
  clear hN hvx he
  go_wp2_with fail
  clear hmk
  /- the modules -/
  go_loopw [10] (fun i wr => ∃ (j : Nat) (P : List Nm), j ≤ L.length ∧ i = .int .i64 j ∧ Hid (∀ k (h : k < L.length), k < j → (L[k].name.data.toList = x.data.toList ∨ L[k].name.data.toList ∈ l) → ∀ u ∈ L[k].uses, u.data.toList ∈ P) ∧ Hid (BRow wr w1.heap.size l.length (inP l P)) ∧ Below w1.heap.size w1 wr) (fun i _ => L.length - (intOf i).toNat)
  case atStart => exact ⟨0, [], Nat.zero_le _, rfl, (fun k h h0 => by omega), HB0.out, al1 _ _⟩
  case round =>
    clear HB0
    obtain ⟨j, P, hj, rfl, HP, HB, hb⟩ := hrel
    by_cases hlt : j < L.length
    · obtain ⟨b', off, mv, a1, c1, a2, c2, a3, c3, a4, c4, rfl, hlb, hM, k0, k1, k2, k3, k4⟩ := HD.out.mo j hlt
      have HU := hid hM.uses
      have hub := hM.uses.bound
      have hmn := hM.wna
      clear hM k2 k3 k4
      have c0 := ((thenB hb1 hb).cell (p := ⟨b', off + j * 5, none⟩) hlb).trans k0
      have c1 := ((thenB hb1 hb).cell (p := ⟨b', off + j * 5 + 1, none⟩) hlb).trans k1
      have hlb' : b' < wr.heap.size := Nat.lt_of_lt_of_le hlb (thenB hb1 hb).size
      have HE : Hid ((L[j].name.toList == x.toList) = (x.data.toList == L[j].name.data.toList)) := str_eq _ _
      cases hee : (L[j].name.toList == x.toList) with
      | true =>
        have HMi : Hid (L[j].name.data.toList = x.data.toList ∨ L[j].name.data.toList ∈ l) := by
          have h1 := HE.out
          rw [hee] at h1
          have h2 : x.data.toList = L[j].name.data.toList := by simpa using h1.symm
          exact Or.inl h2.symm
        /- its uses -/
        go_wp2_with fail
        go_loopw [12] (fun i wy => ∃ (k : Nat) (P' : List Nm), k ≤ L[j].uses.length ∧ i = .int .i64 k ∧ Hid (∀ k' (h : k' < L[j].uses.length), k' < k → L[j].uses[k'].data.toList ∈ P') ∧ Hid (∀ y ∈ P, y ∈ P') ∧ Hid (BRow wy w1.heap.size l.length (inP l P')) ∧ Below w1.heap.size w1 wy) (fun i _ => L[j].uses.length - (intOf i).toNat)
        case atStart => exact ⟨0, P, Nat.zero_le _, rfl, (fun k h h0 => by omega), (fun _ h => h), HB.out, hb⟩
        case round =>
          clear HB hb c0 c1
          obtain ⟨k, P', hk, rfl, HK, HPP, HB, hb⟩ := hrel
          have hbw := thenB hb1 hb
          have c1 := (hbw.cell (p := ⟨b', off + j * 5 + 1, none⟩) hlb).trans k1
          have hlb' : b' < wr.heap.size := Nat.lt_of_lt_of_le hlb hbw.size
          by_cases hkt : k < L[j].uses.length
          · obtain ⟨ub, uo, rfl, hul, huc, hus⟩ := HU.out.str k hkt
            have huc' := (hbw.cell (p := ⟨ub, uo + k, none⟩) hul).trans huc
            have hul' : ub < wr.heap.size := Nat.lt_of_lt_of_le hul hbw.size
            have hul1 : l.contains L[j].uses[k].data.toList = true := by
              have := uses_need HN.out hnd hin hlt HMi.out L[j].uses[k] (List.getElem_mem hkt)
              simpa using this
            go_wp2_with fail
            refine (has_any (.slice va l.length vc) l L[j].uses[k] _ (HV.out.later hb) (by omega)).mono ?_
            rw [hul1]
            have HB1 : Hid (BRow wr w1.heap.size l.length (inQ l P' L[j].uses[k].data.toList 0)) := HB.out.congr (fun i _ => inQ_zero l P' _ i)
            rintro e w6 ⟨rfl, h6⟩
            obtain rfl := h6.symm
            clear hul1
            go_wp2_with fail
            go_loopw [13] (fun i wz => ∃ q : Nat, q ≤ l.length ∧ i = .int .i64 q ∧ Hid (BRow wz w1.heap.size l.length (inQ l P' L[j].uses[k].data.toList q)) ∧ Below w1.heap.size w1 wz) (fun i _ => l.length - (intOf i).toNat)
            case atStart => exact ⟨0, Nat.zero_le _, rfl, HB1.out, hb⟩
            case round =>
              clear HB HB1 hb hbw c1 hlb' huc' hul'
              obtain ⟨q, hq, rfl, HB, hb⟩ := hrel
              have hbw := thenB hb1 hb
              have c1 := (hbw.cell (p := ⟨b', off + j * 5 + 1, none⟩) hlb).trans k1
              have hlb' : b' < wr.heap.size := Nat.lt_of_lt_of_le hlb hbw.size
              have huc' := (hbw.cell (p := ⟨ub, uo + k, none⟩) hul).trans huc
              have hul' : ub < wr.heap.size := Nat.lt_of_lt_of_le hul hbw.size
              by_cases hqt : q < l.length
              · obtain ⟨nb, rfl, hnl, hnc⟩ := (HV.out.later hb).at hqt
                have hg0 := HB.out.cell q hqt
                have hgf := HB.out.fz q hqt
                have hgl := HB.out.lt
                have HE : Hid (((strOf l[q]).toList == L[j].uses[k].toList) = (l.getD q [] == L[j].uses[k].data.toList)) := by
                  show _ = _
                  rw [str_eq, strOf_list, Bool.eq_iff_iff]
                  simp [hqt]
                  exact ⟨Eq.symm, Eq.symm⟩
                generalize strOf l[q] = sq at *
                cases hcv : inQ l P' L[j].uses[k].data.toList q q with
                | true =>
                  rw [hcv] at hg0
                  go_wp2_with fail
                  go_region
                  have HB2 : Hid (BRow ((wr.setCell ⟨w1.heap.size, q, none⟩ (.bool true)).drew) w1.heap.size l.length (inQ l P' L[j].uses[k].data.toList (q + 1))) := HB.out.put q hqt true (fun i _ => by
                    rw [← inQ_step l P' _ q i, hcv]
                    rw [Bool.true_or])
                  have hb2 : Below w1.heap.size w1 ((wr.setCell ⟨w1.heap.size, q, none⟩ (.bool true)).drew) := below_set hb (Nat.le_refl _)
                  clear hg0 hgf
                  go_wp2_with fail
                  go_roundw
                  case rel => exact ⟨q + 1, by omega, by go_num, HB2.out, hb2⟩
                  case measure => simp [intOf]; omega
                | false =>
                  rw [hcv] at hg0
                  go_wp2_with fail
                  go_region
                  have HB2 : Hid (BRow ((wr.setCell ⟨w1.heap.size, q, none⟩ (.bool (sq.toList == L[j].uses[k].toList))).drew) w1.heap.size l.length (inQ l P' L[j].uses[k].data.toList (q + 1))) := HB.out.put q hqt (sq.toList == L[j].uses[k].toList) (fun i _ => by
                    rw [← inQ_step l P' _ q i, hcv]
                    rw [Bool.false_or, HE.out])
                  have hb2 : Below w1.heap.size w1 ((wr.setCell ⟨w1.heap.size, q, none⟩ (.bool (sq.toList == L[j].uses[k].toList))).drew) := below_set hb (Nat.le_refl _)
                  clear hg0 hgf
                  go_wp2_with fail
                  go_roundw
                  case rel => exact ⟨q + 1, by omega, by go_num, HB2.out, hb2⟩
                  case measure => simp [intOf]; omega
              · have HB2 : Hid (BRow wr w1.heap.size l.length (inP l (P' ++ [L[j].uses[k].data.toList]))) := HB.out.congr (fun i hi => inQ_end l P' _ q i (by omega))
                have HK2 : Hid (∀ k' (h : k' < L[j].uses.length), k' < k + 1 → L[j].uses[k'].data.toList ∈ P' ++ [L[j].uses[k].data.toList]) := fun k' h h1 => by
                  by_cases e : k' = k
                  · subst e; simp
                  · exact List.mem_append_left _ (HK.out k' h (by omega))
                go_wp2_with fail
                go_roundw
                case rel => exact ⟨k + 1, P' ++ [L[j].uses[k].data.toList], by omega, by go_num, HK2.out, (fun y hy => List.mem_append_left _ (HPP.out y hy)), HB2.out, hb⟩
                case measure => simp [intOf]; omega
          · have HP2 : Hid (∀ k (h : k < L.length), k < j + 1 → (L[k].name.data.toList = x.data.toList ∨ L[k].name.data.toList ∈ l) → ∀ u ∈ L[k].uses, u.data.toList ∈ P') := fun k' h h1 hm u hu' => by
              by_cases e : k' = j
              · subst e
                obtain ⟨i, hi, rfl⟩ := List.getElem_of_mem hu'
                exact HK.out i hi (by omega)
              · exact HPP.out _ (HP.out k' h (by omega) hm u hu')
            go_wp2_with fail
            go_roundw
            case rel => exact ⟨j + 1, P', by omega, by go_num, HP2.out, HB.out, hb⟩
            case measure => simp [intOf]; omega
      | false =>
        go_wp2_with fail
        refine (has_any (.slice va l.length vc) l L[j].name _ (HV.out.later hb) (by omega)).mono ?_
        cases hln : l.contains L[j].name.data.toList with
        | true =>
          have HMi : Hid (L[j].name.data.toList = x.data.toList ∨ L[j].name.data.toList ∈ l) := Or.inr (by simpa using hln)
          rintro e w5 ⟨rfl, h5⟩
          obtain rfl := h5.symm
          /- its uses -/
          go_wp2_with fail
          go_loopw [12] (fun i wy => ∃ (k : Nat) (P' : List Nm), k ≤ L[j].uses.length ∧ i = .int .i64 k ∧ Hid (∀ k' (h : k' < L[j].uses.length), k' < k → L[j].uses[k'].data.toList ∈ P') ∧ Hid (∀ y ∈ P, y ∈ P') ∧ Hid (BRow wy w1.heap.size l.length (inP l P')) ∧ Below w1.heap.size w1 wy) (fun i _ => L[j].uses.length - (intOf i).toNat)
          case atStart => exact ⟨0, P, Nat.zero_le _, rfl, (fun k h h0 => by omega), (fun _ h => h), HB.out, hb⟩
          case round =>
            clear HB hb c0 c1
            obtain ⟨k, P', hk, rfl, HK, HPP, HB, hb⟩ := hrel
            have hbw := thenB hb1 hb
            have c1 := (hbw.cell (p := ⟨b', off + j * 5 + 1, none⟩) hlb).trans k1
            have hlb' : b' < wr.heap.size := Nat.lt_of_lt_of_le hlb hbw.size
            by_cases hkt : k < L[j].uses.length
            · obtain ⟨ub, uo, rfl, hul, huc, hus⟩ := HU.out.str k hkt
              have huc' := (hbw.cell (p := ⟨ub, uo + k, none⟩) hul).trans huc
              have hul' : ub < wr.heap.size := Nat.lt_of_lt_of_le hul hbw.size
              have hul1 : l.contains L[j].uses[k].data.toList = true := by
                have := uses_need HN.out hnd hin hlt HMi.out L[j].uses[k] (List.getElem_mem hkt)
                simpa using this
              go_wp2_with fail
              refine (has_any (.slice va l.length vc) l L[j].uses[k] _ (HV.out.later hb) (by omega)).mono ?_
              rw [hul1]
              have HB1 : Hid (BRow wr w1.heap.size l.length (inQ l P' L[j].uses[k].data.toList 0)) := HB.out.congr (fun i _ => inQ_zero l P' _ i)
              rintro e w6 ⟨rfl, h6⟩
              obtain rfl := h6.symm
              clear hul1
              go_wp2_with fail
              go_loopw [13] (fun i wz => ∃ q : Nat, q ≤ l.length ∧ i = .int .i64 q ∧ Hid (BRow wz w1.heap.size l.length (inQ l P' L[j].uses[k].data.toList q)) ∧ Below w1.heap.size w1 wz) (fun i _ => l.length - (intOf i).toNat)
              case atStart => exact ⟨0, Nat.zero_le _, rfl, HB1.out, hb⟩
              case round =>
                clear HB HB1 hb hbw c1 hlb' huc' hul'
                obtain ⟨q, hq, rfl, HB, hb⟩ := hrel
                have hbw := thenB hb1 hb
                have c1 := (hbw.cell (p := ⟨b', off + j * 5 + 1, none⟩) hlb).trans k1
                have hlb' : b' < wr.heap.size := Nat.lt_of_lt_of_le hlb hbw.size
                have huc' := (hbw.cell (p := ⟨ub, uo + k, none⟩) hul).trans huc
                have hul' : ub < wr.heap.size := Nat.lt_of_lt_of_le hul hbw.size
                by_cases hqt : q < l.length
                · obtain ⟨nb, rfl, hnl, hnc⟩ := (HV.out.later hb).at hqt
                  have hg0 := HB.out.cell q hqt
                  have hgf := HB.out.fz q hqt
                  have hgl := HB.out.lt
                  have HE : Hid (((strOf l[q]).toList == L[j].uses[k].toList) = (l.getD q [] == L[j].uses[k].data.toList)) := by
                    show _ = _
                    rw [str_eq, strOf_list, Bool.eq_iff_iff]
                    simp [hqt]
                    exact ⟨Eq.symm, Eq.symm⟩
                  generalize strOf l[q] = sq at *
                  cases hcv : inQ l P' L[j].uses[k].data.toList q q with
                  | true =>
                    rw [hcv] at hg0
                    go_wp2_with fail
                    go_region
                    have HB2 : Hid (BRow ((wr.setCell ⟨w1.heap.size, q, none⟩ (.bool true)).drew) w1.heap.size l.length (inQ l P' L[j].uses[k].data.toList (q + 1))) := HB.out.put q hqt true (fun i _ => by
                      rw [← inQ_step l P' _ q i, hcv]
                      rw [Bool.true_or])
                    have hb2 : Below w1.heap.size w1 ((wr.setCell ⟨w1.heap.size, q, none⟩ (.bool true)).drew) := below_set hb (Nat.le_refl _)
                    clear hg0 hgf
                    go_wp2_with fail
                    go_roundw
                    case rel => exact ⟨q + 1, by omega, by go_num, HB2.out, hb2⟩
                    case measure => simp [intOf]; omega
                  | false =>
                    rw [hcv] at hg0
                    go_wp2_with fail
                    go_region
                    have HB2 : Hid (BRow ((wr.setCell ⟨w1.heap.size, q, none⟩ (.bool (sq.toList == L[j].uses[k].toList))).drew) w1.heap.size l.length (inQ l P' L[j].uses[k].data.toList (q + 1))) := HB.out.put q hqt (sq.toList == L[j].uses[k].toList) (fun i _ => by
                      rw [← inQ_step l P' _ q i, hcv]
                      rw [Bool.false_or, HE.out])
                    have hb2 : Below w1.heap.size w1 ((wr.setCell ⟨w1.heap.size, q, none⟩ (.bool (sq.toList == L[j].uses[k].toList))).drew) := below_set hb (Nat.le_refl _)
                    clear hg0 hgf
                    go_wp2_with fail
                    go_roundw
                    case rel => exact ⟨q + 1, by omega, by go_num, HB2.out, hb2⟩
                    case measure => simp [intOf]; omega
                · have HB2 : Hid (BRow wr w1.heap.size l.length (inP l (P' ++ [L[j].uses[k].data.toList]))) := HB.out.congr (fun i hi => inQ_end l P' _ q i (by omega))
                  have HK2 : Hid (∀ k' (h : k' < L[j].uses.length), k' < k + 1 → L[j].uses[k'].data.toList ∈ P' ++ [L[j].uses[k].data.toList]) := fun k' h h1 => by
                    by_cases e : k' = k
                    · subst e; simp
                    · exact List.mem_append_left _ (HK.out k' h (by omega))
                  go_wp2_with fail
                  go_roundw
                  case rel => exact ⟨k + 1, P' ++ [L[j].uses[k].data.toList], by omega, by go_num, HK2.out, (fun y hy => List.mem_append_left _ (HPP.out y hy)), HB2.out, hb⟩
                  case measure => simp [intOf]; omega
            · have HP2 : Hid (∀ k (h : k < L.length), k < j + 1 → (L[k].name.data.toList = x.data.toList ∨ L[k].name.data.toList ∈ l) → ∀ u ∈ L[k].uses, u.data.toList ∈ P') := fun k' h h1 hm u hu' => by
                by_cases e : k' = j
                · subst e
                  obtain ⟨i, hi, rfl⟩ := List.getElem_of_mem hu'
                  exact HK.out i hi (by omega)
                · exact HPP.out _ (HP.out k' h (by omega) hm u hu')
              go_wp2_with fail
              go_roundw
              case rel => exact ⟨j + 1, P', by omega, by go_num, HP2.out, HB.out, hb⟩
              case measure => simp [intOf]; omega
        | false =>
          have HMi : Hid (¬ (L[j].name.data.toList = x.data.toList ∨ L[j].name.data.toList ∈ l)) := by
            rintro (h | h)
            · have h1 := HE.out
              rw [hee, h] at h1
              simp at h1
            · have : l.contains L[j].name.data.toList = true := by simpa using h
              rw [hln] at this
              cases this
          rintro e w5 ⟨rfl, h5⟩
          obtain rfl := h5.symm
          have HP2 : Hid (∀ k (h : k < L.length), k < j + 1 → (L[k].name.data.toList = x.data.toList ∨ L[k].name.data.toList ∈ l) → ∀ u ∈ L[k].uses, u.data.toList ∈ P) := fun k' h h1 hm u hu' => by
            by_cases e : k' = j
            · subst e
              exact (HMi.out hm).elim
            · exact HP.out k' h (by omega) hm u hu'
          go_wp2_with fail
          go_loopw [12] (fun i wy => i = .int .i64 0 ∧ wy = wr) (fun _ _ => 0)
          case atStart => exact ⟨rfl, rfl⟩
          case round =>
            obtain ⟨rfl, hwr⟩ := hrel
            obtain rfl := hwr.symm
            by_cases h0 : 0 < L[j].uses.length
            · go_wp2_with fail
              go_roundw
              case rel => exact ⟨j + 1, P, by omega, by go_num, HP2.out, HB.out, hb⟩
              case measure => simp [intOf]; omega
            · go_wp2_with fail
              go_roundw
              case rel => exact ⟨j + 1, P, by omega, by go_num, HP2.out, HB.out, hb⟩
              case measure => simp [intOf]; omega

    · have HAll : Hid (∀ q, q < l.length → inP l P q = true) := all_used HN.out hnd hin (fun k h hm => HP.out k h (by omega) hm)
      have HZ := hid hlt
      go_wp2_with fail
      have Hb := hid hb
      clear hb hlt HP
      go_loopw [14] (fun i wz => ∃ q : Nat, q ≤ l.length ∧ i = .int .i64 q ∧ wz = wr) (fun i _ => l.length - (intOf i).toNat)
      case atStart => exact ⟨0, Nat.zero_le _, rfl, rfl⟩
      case round =>
        obtain ⟨q, hq, rfl, hwr⟩ := hrel
        obtain rfl := hwr.symm
        by_cases hqt : q < l.length
        · have hc := HB.out.cell q hqt
          rw [HAll.out q hqt] at hc
          have hgl := HB.out.lt
          go_wp2_with fail
          go_roundw
          case rel => exact ⟨q + 1, by omega, by go_num, by first | rfl | trivial⟩
          case measure => simp [intOf]; omega
        · by_cases h0 : l.length = 0
          · have h0b : ((l.length : Int) == 0) = true := by rw [beq_iff_eq]; omega
            go_wp2_with fail
            refine (orderBegun_any _).mono ?_
            rintro e w2 ⟨rfl, hb2⟩
            go_wp2_with fail
            go_ret
            exact ⟨rfl, thenB hb1 (thenB Hb.out hb2)⟩
          · have h0b : ((l.length : Int) == 0) = false := by rw [beq_eq_false_iff_ne]; omega
            go_wp2_with fail
            refine (choose_any n l.length _ hn0 hn1 (by omega) (by omega)).mono ?_
            rintro e w2 ⟨c, hc, rfl, h2⟩
            obtain rfl := h2.symm
            obtain ⟨nb, rfl, hnl, hnc⟩ := (HV.out.later Hb.out).at hc
            have hcin : l[c] ∈ nmL L := HN.out.mem _ (List.getElem_mem hc)
            have HS : Hid ((strOf l[c]).size ≤ maxLen) := by
              show _ ≤ _
              rw [str_ix hcin]
              obtain ⟨_, _, _, _, _, _, _, _, _, _, _, _, _, hM, _⟩ := HD.out.mo _ (ix_lt hcin)
              exact hM.wna
            have HC := hid (Needs_any L a cap (strOf l[c]) _ (HD.out.later (thenB hb1 Hb.out)) HS.out)
            have HX : Hid ((strOf l[c]).data.toList = l[c]) := strOf_list _
            have hcL : (c : Int) < (l.length : Int) := by omega
            go_wp2_with fail
            refine HC.out.mono ?_
            rintro e w3 ⟨hs, hb3⟩
            rcases hs with ⟨h, _⟩ | ⟨_, h, _⟩ | ⟨l2, v2, _, _, hN2, rfl, hV2⟩
            · exact (h HE.out).elim
            · rw [HX.out] at h; exact (h hcin).elim
            rw [HX.out] at hN2
            have HIn : Hid (∀ y ∈ l2, y ∈ l) := Og.NeedIs.inner HN.out.need hN2.need (List.getElem_mem hc)
            have hl2 : l2.length ≤ 4 := by have := len_le l2 (nmL L) hN2.need.nodup hN2.mem; rw [nmL_len] at this; omega
            have HV2 := hid hV2
            have HV3 := hid ((HV.out.later Hb.out).later hb3)
            have hb13 := thenB hb1 (thenB Hb.out hb3)
            obtain ⟨wa, wc, rfl, hwx⟩ := hV2
            clear hwx hN2 hb3 HC hnc hnl
            go_wp2_with fail
            go_loopw [17] (fun i wz => ∃ q : Nat, q ≤ l2.length ∧ i = .int .i64 q ∧ wz = w3) (fun i _ => l2.length - (intOf i).toNat)
            case atStart => exact ⟨0, Nat.zero_le _, rfl, rfl⟩
            case round =>
              obtain ⟨r, hr, rfl, hwr⟩ := hrel
              obtain rfl := hwr.symm
              by_cases hrt : r < l2.length
              · obtain ⟨mb, rfl, hml, hmc⟩ := HV2.out.at hrt
                have hin2 : l.contains (strOf l2[r]).data.toList = true := by rw [strOf_list]; simpa using HIn.out _ (List.getElem_mem hrt)
                have HC2 := hid (has_any (.slice (some ⟨nb, 0, none⟩) l.length vc) l (strOf l2[r]) _ HV3.out (by omega))
                rw [hin2] at HC2
                generalize strOf l2[r] = sr at *
                go_wp2_with fail
                refine HC2.out.mono ?_
                rintro e w4 ⟨rfl, h4'⟩
                obtain rfl := h4'.symm
                go_wp2_with fail
                go_roundw
                case rel => exact ⟨r + 1, by omega, by go_num, by first | rfl | trivial⟩
                case measure => simp [intOf]; omega
              · go_wp2_with fail
                refine (orderBegun_any _).mono ?_
                rintro e w4 ⟨rfl, hb4⟩
                go_wp2_with fail
                go_ret
                exact ⟨rfl, thenB hb13 hb4⟩
end Go.Proofs.Ytplkbngnnaogkaa
