/-
  The document's OrderError.
-/
import Derived.Test.YtplkbngnnaogkaaRj
import Derived.Sort.Walk0
namespace Go.Proofs.Ytplkbngnnaogkaa
open Go.RowKit Go.Maps

theorem SOwn.shape {w : World} {base : Nat} {v : Value} {xs : List ByteArray} (h : SOwn w base v xs) : ∃ a cap, v = .slice a xs.length cap ∧ ∀ k, v.ownBlock = some k → base ≤ k := by
  rcases h.2 with ⟨rfl, h0⟩ | ⟨g, cap, cur, rfl, hb, _⟩
  · exact ⟨none, 0, by rw [h0], fun k hk => by simp [Value.ownBlock] at hk⟩
  · exact ⟨_, cap, rfl, fun k hk => by simp [Value.ownBlock] at hk; omega⟩
theorem toN_names (L : List Mo) : toN (L.map Mo.name) = nmL L := by simp [toN, nmL]
theorem names_snoc (L : List Mo) (j : Nat) (h : j < L.length) : (L.take (j + 1)).map Mo.name = (L.take j).map Mo.name ++ [L[j].name] := by
  rw [List.take_succ_eq_append_getElem h, List.map_append]; rfl
theorem mn_neg {L : List Mo} {x : ByteArray} (h : (nmL L).contains x.data.toList = false) : mnI L x = -1 := by
  unfold mnI; rw [if_neg (by rw [h]; simp)]
theorem mn_pos {L : List Mo} {x : ByteArray} (h : (nmL L).contains x.data.toList = true) : mnI L x = (((nmL L).idxOf x.data.toList : Nat) : Int) := if_pos h
set_option maxRecDepth 100000 in
set_option maxHeartbeats 1600000 in
theorem OrderError_any (L : List Mo) (a : Option Addr) (cap : Nat) (w : World) (hD : DAt w Tt a L.length (mosD L)) (hS : ∀ m ∈ L, Small m) :
    Calls Try.prog 23 #[.slice a L.length cap] w fun e w' => e = .returned (.int .i64 (ordE L)) ∧ Below w.heap.size w w' := by
  have hbd := hD.bound
  have HD := hid hD
  have HS := hid hS
  clear hD hS
  by_cases h4 : 4 < L.length
  · have HE : Hid (ordE L = 2) := ordE_many h4
    go_enter Try.func23, Try.ntmps23
    go_wp2_with fail
    go_ret
    exact ⟨ret_int HE.out.symm, Below.refl _ _⟩
  have HI : Hid (∃ i0, Try.prog.info? 9 = some i0 ∧ i0.zero = some (.string .empty) ∧ i0.size = 1 ∧ i0.bytes = 16) := info_parts Try.infoStr
  go_enter Try.func23, Try.ntmps23
  go_wp2_with fail
  go_loopw [3, 4, 5] (fun v i _ wr => ∃ j : Nat, j ≤ L.length ∧ i = .int .i64 j ∧ (L.take j).all (fun m => m.err == 0) = true ∧ SOwn wr w.heap.size v ((L.take j).map Mo.name) ∧ Below w.heap.size w wr) (fun _ i _ _ => L.length - (intOf i).toNat)
  case atStart => exact ⟨0, Nat.zero_le _, rfl, rfl, World.ownsRow_nil _ _ _ _, Below.refl _ _⟩
  case round =>
    obtain ⟨j, hj, rfl, hall, hown, hb⟩ := hrel
    have HA := hid hall
    obtain ⟨sa, sc, rfl, hk⟩ := hown.shape
    have hlen : ((L.take j).map Mo.name).length = j := by simp; omega
    have HO := hid hown
    have HL := hid hk
    rw [hlen] at HO HL ⊢
    clear hall hown hk
    by_cases hlt : j < L.length
    · obtain ⟨b, off, v, a1, c1, a2, c2, a3, c3, a4, c4, rfl, hlb, hM, k0, k1, k2, k3, k4⟩ := (HD.out.later hb).mo j hlt
      have HM := hid hM
      obtain rfl := hM.val
      clear hM
      go_wp2_with fail
      refine (CheckModule_any L[j] _ a1 c1 a2 c2 a3 c3 a4 c4 _ HM.out (HS.out _ (List.getElem_mem hlt))).mono ?_
      rintro e w3 ⟨rfl, hb3⟩
      have k0' : w3.cell? ⟨b, off + j * 5, none⟩ = some (.string L[j].name) := (hb3.cell (p := ⟨b, off + j * 5, none⟩) hlb).trans k0
      have hlb' : b < w3.heap.size := Nat.lt_of_lt_of_le hlb hb3.size
      have hb4 := thenB hb hb3
      have HO3 : Hid (SOwn w3 w.heap.size (.slice sa j sc) ((L.take j).map Mo.name)) := ownsRow_later HO.out hb3
      have hsz := hb4.size
      clear hb3 k0 k1 k2 k3 k4 hlb HO
      cases he : (L[j].err == 0) with
      | true =>
        have HT : Hid ((L.take (j + 1)).all (fun m => m.err == 0) = true) := by
          show _ = _
          rw [all_snoc L _ j hlt, HA.out, he]; rfl
        have HO4 : Hid (w3.ownsRow w.heap.size 9 1 (.slice sa j sc) j (((L.take j).map Mo.name).map .string)) := by
          have h := HO3.out
          unfold SOwn at h
          rw [hlen] at h
          exact h
        obtain ⟨i0, hi0, hz0, hz1, hz2⟩ := HI.out
        go_wp2_with (at_builtin; refine wpList_append_lies _ rfl _ _ 27 rfl w.heap.size 9 i0 _ 1 16 Try.underlying27 hi0 hz0 hz1 hz2 rfl (by decide) _ j (((L.take j).map Mo.name).map .string) rfl (HO4.out.alloc _) _ 1 1 [.string L[j].name] rfl rfl (one_new _ _ _ _ (by simp)) (by simp [Value.oneCell']) (by omega) (by unfold maxLen; omega) (by omega) (by simp; omega) _ rfl ?_; intro gb cp w8 hown8 hg8 hat8 hlt8)
        have hg : w3.grownBy w8 (Value.slice sa j sc).ownBlock := (World.grownBy_alloc w3 _ _).trans hg8
        have hb8 : Below w.heap.size w w8 := hb4.grown hg hsz HL.out
        have HW : Hid (SOwn w8 w.heap.size (.slice (some ⟨gb, 0, none⟩) (j + 1) cp) ((L.take (j + 1)).map Mo.name)) := by
          show SOwn _ _ _ _
          unfold SOwn
          rw [names_snoc L j hlt, List.length_append, List.map_append, hlen]
          exact hown8
        clear hown8 hg8 hat8 hg
        go_roundw
        case rel => exact ⟨j + 1, by omega, by go_num, HT.out, HW.out, hb8⟩
        case measure => simp [intOf]; omega
      | false =>
        have HE : Hid (ordE L = L[j].err) := ordE_first h4 j hlt HA.out he
        go_wp2_with fail
        go_ret
        exact ⟨ret_int HE.out.symm, hb4⟩
    · have HT : Hid (L.all (fun m => m.err == 0) = true) := all_end HA.out hlt
      have hje : j = L.length := by omega
      subst hje
      have HO2 : Hid (SOwn wr w.heap.size (.slice sa L.length sc) (L.map Mo.name)) := by
        have h := HO.out
        rw [List.take_length] at h
        exact h
      clear HA HO hlt hj hlen
      obtain ⟨a', cap', e, hrow⟩ := HO2.out.cell
      rw [List.length_map] at e
      injection e with e1 e2 e3
      subst e1
      subst e3
      have hlm : (L.map Mo.name).length = L.length := by simp
      have htw := twice_any (L.map Mo.name) sa sc wr hrow (by simp; omega)
      rw [toN_names, hlm] at htw
      have HTw := hid htw
      clear htw hrow e2
      go_wp2_with fail
      refine HTw.out.mono ?_
      by_cases hn : (nmL L).Nodup
      · rw [decide_eq_true hn]
        rintro e w3 ⟨rfl, hb3⟩
        have hb4 := thenB hb hb3
        clear hb3 hb HO2 HL HTw
        have HN := hid hn
        clear hn
        go_wp2_with fail
        go_loopw [6, 7] (fun i _ wr => ∃ j : Nat, j ≤ L.length ∧ i = .int .i64 j ∧ (L.take j).all (fun m => m.uses.all (fun u => (nmL L).contains u.data.toList)) = true ∧ Below w3.heap.size w3 wr) (fun i _ _ => L.length - (intOf i).toNat)
        case atStart => exact ⟨0, Nat.zero_le _, rfl, rfl, Below.refl _ _⟩
        case round =>
          obtain ⟨j, hj, rfl, hall, hb5⟩ := hrel
          have HA := hid hall
          clear hall
          by_cases hlt : j < L.length
          · obtain ⟨b', off, v, a1, c1, a2, c2, a3, c3, a4, c4, rfl, hlb, hM, k0, k1, k2, k3, k4⟩ := (HD.out.later (thenB hb4 hb5)).mo j hlt
            have HU := hid hM.uses
            have hub := hM.uses.bound
            clear hM k0 k2 k3 k4
            go_wp2_with fail
            go_loopw [7] (fun i wr' => ∃ q : Nat, q ≤ L[j].uses.length ∧ i = .int .i64 q ∧ (L[j].uses.take q).all (fun u => (nmL L).contains u.data.toList) = true ∧ wr' = wr) (fun i _ => L[j].uses.length - (intOf i).toNat)
            case atStart => exact ⟨0, Nat.zero_le _, rfl, rfl, rfl⟩
            case round =>
              obtain ⟨q, hq, rfl, hallu, hw⟩ := hrel
              obtain rfl := hw
              have HQ := hid hallu
              clear hallu
              by_cases hqt : q < L[j].uses.length
              · obtain ⟨ub, uo, rfl, hul, huc, hus⟩ := HU.out.str q hqt
                have HMn := hid (moduleNamed_any L (some ⟨b', off, none⟩) cap L[j].uses[q] _ (HD.out.later (thenB hb4 hb5)) HN.out)
                cases hin : (nmL L).contains (L[j].uses[q]).data.toList with
                | true =>
                  have HT' : Hid ((L[j].uses.take (q + 1)).all (fun u => (nmL L).contains u.data.toList) = true) := by
                    show _ = _
                    rw [all_snoc _ _ q hqt, HQ.out, hin]; rfl
                  have hmn : mnI L L[j].uses[q] = (((nmL L).idxOf L[j].uses[q].data.toList : Nat) : Int) := mn_pos hin
                  rw [hmn] at HMn
                  clear hmn
                  go_wp2_with fail
                  refine HMn.out.mono ?_
                  rintro e w6 ⟨rfl, rfl⟩
                  generalize (nmL L).idxOf L[j].uses[q].data.toList = ix at *
                  go_wp2_with fail
                  go_roundw
                  case rel => exact ⟨q + 1, by omega, by go_num, HT'.out, by first | rfl | trivial⟩
                  case measure => simp [intOf]; omega
                | false =>
                  have HE : Hid (ordE L = 5) := ordE_none h4 HT.out HN.out (all_not L _ j hlt (all_not _ _ q hqt hin))
                  have hmn : mnI L L[j].uses[q] = -1 := mn_neg hin
                  rw [hmn] at HMn
                  clear hmn
                  go_wp2_with fail
                  refine HMn.out.mono ?_
                  rintro e w6 ⟨rfl, rfl⟩
                  go_wp2_with fail
                  go_ret
                  exact ⟨ret_int HE.out.symm, thenB hb4 hb5⟩
              · have HT' : Hid ((L.take (j + 1)).all (fun m => m.uses.all (fun u => (nmL L).contains u.data.toList)) = true) := by
                  show _ = _
                  rw [all_snoc L _ j hlt, HA.out, all_end HQ.out hqt]; rfl
                go_wp2_with fail
                go_roundw
                case rel => exact ⟨j + 1, by omega, by go_num, HT'.out, hb5⟩
                case measure => simp [intOf]; omega
          · have HE : Hid (ordE L = 0) := ordE_ok h4 HT.out HN.out (all_end HA.out hlt)
            go_wp2_with fail
            go_ret
            exact ⟨ret_int HE.out.symm, thenB hb4 hb5⟩
      · rw [decide_eq_false hn]
        have HE : Hid (ordE L = 6) := ordE_there h4 HT.out hn
        rintro e w3 ⟨rfl, hb3⟩
        go_wp2_with fail
        go_ret
        exact ⟨ret_int HE.out.symm, thenB hb hb3⟩
end Go.Proofs.Ytplkbngnnaogkaa

namespace Go.Proofs.Ytplkbngnnaogkaa
open Go.RowKit Go.Maps Go.Sort

theorem less_eq (s t : ByteArray) : Op.bytesLess s.toList t.toList = decide (s.data.toList < t.data.toList) := by
  rw [bytesLess_eq, Lib.toList_data, Lib.toList_data]
def nmT (L : List Mo) (t : Nat) : Nm := (nmL L).getD t []
theorem nmT_at (L : List Mo) (t : Nat) (h : t < L.length) : nmT L t = L[t].name.data.toList := by
  unfold nmT; rw [List.getD_eq_getElem?_getD, nm_at L t h]; rfl
theorem nmT_ix {L : List Mo} {a : Nm} (h : a ∈ nmL L) : nmT L ((nmL L).idxOf a) = a := by
  rw [nmT_at L _ (ix_lt h)]; exact ix_name h
theorem nmT_mem (L : List Mo) (t : Nat) (h : t < L.length) : nmT L t ∈ nmL L := by
  rw [nmT_at L t h]; exact List.mem_of_getElem? (nm_at L t h)
theorem nmT_inj {L : List Mo} (hn : (nmL L).Nodup) {t s : Nat} (ht : t < L.length) (hs : s < L.length) (e : nmT L t = nmT L s) : t = s := by
  have h1 := idx_of hn (nm_at L t ht)
  have h2 := idx_of hn (nm_at L s hs)
  rw [← nmT_at L t ht] at h1
  rw [← nmT_at L s hs, ← e] at h2
  omega
theorem free_at {L : List Mo} (hn : (nmL L).Nodup) (S : List Nm) (t : Nat) (h : t < L.length) : Og.freeB (uL L) S (nmT L t) = (!S.contains (nmT L t) && L[t].uses.all (fun u => S.contains u.data.toList)) := by
  have hi : t < (gL L).length := by simpa [gL] using h
  have := Og.useOf_at (L := gL L) (by rw [names_gL]; exact hn) t hi
  have e : ((gL L)[t]'hi).name = nmT L t := by rw [nmT_at L t h]; simp [gL, gmOf]
  rw [e] at this
  unfold Og.freeB
  rw [show uL L (nmT L t) = ((gL L)[t]'hi).uses from this]
  simp only [gL, List.getElem_map, gmOf, List.all_map]
  rfl
def Best (L : List Mo) (S : List Nm) (i : Nat) (b : Int) : Prop :=
  (b = -1 ∧ ∀ t, t < L.length → t < i → Og.freeB (uL L) S (nmT L t) = false) ∨
  (∃ t0, t0 < L.length ∧ t0 < i ∧ b = (t0 : Int) ∧ Og.freeB (uL L) S (nmT L t0) = true ∧ ∀ t, t < L.length → t < i → Og.freeB (uL L) S (nmT L t) = true → nmT L t0 ≤ nmT L t)
theorem Best.start (L : List Mo) (S : List Nm) : Best L S 0 (-1) := Or.inl ⟨rfl, fun t _ h => by omega⟩
theorem Best.no {L : List Mo} {S : List Nm} {i : Nat} {b : Int} (h : Best L S i b) (hf : Og.freeB (uL L) S (nmT L i) = false) : Best L S (i + 1) b := by
  rcases h with ⟨rfl, h⟩ | ⟨t0, h0, h1, rfl, h2, h3⟩
  · refine Or.inl ⟨rfl, fun t ht hi => ?_⟩
    rcases Nat.lt_or_ge t i with hlt | hge
    · exact h t ht hlt
    · rw [show t = i from by omega]; exact hf
  · refine Or.inr ⟨t0, h0, by omega, rfl, h2, fun t ht hi hft => ?_⟩
    rcases Nat.lt_or_ge t i with hlt | hge
    · exact h3 t ht hlt hft
    · rw [show t = i from by omega] at hft; rw [hf] at hft; cases hft
theorem Best.first {L : List Mo} {S : List Nm} {i : Nat} (h : Best L S i (-1)) (hi : i < L.length) (hf : Og.freeB (uL L) S (nmT L i) = true) : Best L S (i + 1) (i : Int) := by
  rcases h with ⟨_, h⟩ | ⟨t0, h0, h1, e, h2, h3⟩
  · refine Or.inr ⟨i, hi, by omega, rfl, hf, fun t ht hi2 hft => ?_⟩
    rcases Nat.lt_or_ge t i with hlt | hge
    · rw [h t ht hlt] at hft; cases hft
    · rw [show t = i from by omega]; exact List.le_refl _
  · omega
theorem Best.less {L : List Mo} {S : List Nm} {i t0 : Nat} (h : Best L S i (t0 : Int)) (hi : i < L.length) (hf : Og.freeB (uL L) S (nmT L i) = true) (hl : nmT L i < nmT L t0) : Best L S (i + 1) (i : Int) := by
  rcases h with ⟨e, h⟩ | ⟨t1, h0, h1, e, h2, h3⟩
  · omega
  · have e' : t0 = t1 := by omega
    subst e'
    refine Or.inr ⟨i, hi, by omega, rfl, hf, fun t ht hi2 hft => ?_⟩
    rcases Nat.lt_or_ge t i with hlt | hge
    · exact List.le_trans (List.le_of_lt hl) (h3 t ht hlt hft)
    · rw [show t = i from by omega]; exact List.le_refl _
theorem Best.more {L : List Mo} {S : List Nm} {i t0 : Nat} (h : Best L S i (t0 : Int)) (hl : ¬ nmT L i < nmT L t0) : Best L S (i + 1) (t0 : Int) := by
  rcases h with ⟨e, h⟩ | ⟨t1, h0, h1, e, h2, h3⟩
  · omega
  · have e' : t0 = t1 := by omega
    subst e'
    refine Or.inr ⟨t0, h0, by omega, rfl, h2, fun t ht hi2 hft => ?_⟩
    rcases Nat.lt_or_ge t i with hlt | hge
    · exact h3 t ht hlt hft
    · rw [show t = i from by omega]; exact List.not_lt.1 hl
theorem Best.none {L : List Mo} {S : List Nm} (h : Best L S L.length (-1)) : (nsL L).find? (Og.freeB (uL L) S) = none := by
  rcases h with ⟨_, h⟩ | ⟨t0, _, _, e, _⟩
  · rw [List.find?_eq_none]
    intro x hx
    have hm := mem_nsL.1 hx
    have := h _ (ix_lt hm) (ix_lt hm)
    rw [nmT_ix hm] at this
    simp [this]
  · omega
theorem Best.some {L : List Mo} {S : List Nm} {t0 : Nat} (h : Best L S L.length (t0 : Int)) (hn : (nmL L).Nodup) : t0 < L.length ∧ (nsL L).find? (Og.freeB (uL L) S) = some (nmT L t0) := by
  rcases h with ⟨e, _⟩ | ⟨t1, h0, h1, e, h2, h3⟩
  · omega
  · have e' : t0 = t1 := by omega
    subst e'
    refine ⟨h0, ?_⟩
    have hp := List.mergeSort_perm (nmL L) Og.le
    have hnd : (nsL L).Nodup := hp.nodup_iff.2 hn
    have hs : (nsL L).Pairwise (fun a b => Og.le a b = true) := List.pairwise_mergeSort (fun a b c h1 h2 => by simp only [Og.le, decide_eq_true_eq] at *; exact List.le_trans h1 h2) (fun a b => by simp only [Og.le, Bool.or_eq_true, decide_eq_true_eq]; exact List.le_total a b) _
    obtain ⟨q, hq, eq⟩ := List.getElem_of_mem (mem_nsL.2 (nmT_mem L t0 h0))
    rw [List.find?_eq_some_iff_getElem]
    refine ⟨h2, q, hq, eq, fun j hj => ?_⟩
    cases hf : Og.freeB (uL L) S (nsL L)[j] with
    | false => rfl
    | true =>
      exfalso
      have hm := mem_nsL.1 (List.getElem_mem (l := nsL L) (n := j) (by omega))
      have h5 := h3 _ (ix_lt hm) (ix_lt hm) (by rw [nmT_ix hm]; exact hf)
      rw [nmT_ix hm] at h5
      have h6 := List.pairwise_iff_getElem.1 hs j q (by omega) hq hj
      rw [eq] at h6
      simp only [Og.le, decide_eq_true_eq] at h6
      have h7 : (nsL L)[j] = (nsL L)[q] := by rw [eq]; exact List.le_antisymm h6 h5
      have := (List.nodup_iff_pairwise_ne.1 hnd)
      exact (List.pairwise_iff_getElem.1 this j q (by omega) hq hj) h7
/- a row of bools -/
structure Fl (w : World) (b n : Nat) (f : Nat → Bool) : Prop where
  lt : b < w.heap.size
  cell : ∀ t, t < n → w.cell? ⟨b, t, none⟩ = some (.bool (f t))
  fz : ∀ o, w.frozen? ⟨b, o, none⟩ = false
theorem Fl.kept {w w' : World} {b n : Nat} {f : Nat → Bool} {r : Option Nat} (h : Fl w b n f) (hg : w.grownBy w' r) (hr : Option.some b ≠ r) : Fl w' b n f :=
  have hb := hg.block b h.lt hr
  ⟨Nat.lt_of_lt_of_le h.lt hg.size, fun i hi => (World.cell?_of_block (a := ⟨b, i, Option.none⟩) hb).trans (h.cell i hi), fun i => (World.frozen?_of_block (a := ⟨b, i, Option.none⟩) hb).trans (h.fz i)⟩
theorem Fl.later {w w' : World} {b n : Nat} {f : Nat → Bool} (h : Fl w b n f) (hb : Below w.heap.size w w') : Fl w' b n f := h.kept (r := Option.none) ⟨hb.os, hb.tape, hb.output, hb.size, fun k hk _ => hb.block k hk⟩ (by simp)
theorem Fl.set {w : World} {b n : Nat} {f g : Nat → Bool} (h : Fl w b n f) (j : Nat) (hj : j < n) (hg : ∀ t, t < n → g t = if t = j then true else f t) : Fl (w.setCell ⟨b, j, Option.none⟩ (.bool true)) b n g := by
  refine ⟨by simpa [World.setCell] using h.lt, fun t ht => ?_, fun o => by rw [World.frozen?_setCell]; exact h.fz o⟩
  rw [hg t ht]
  by_cases e : t = j
  · subst e
    rw [if_pos rfl]
    exact World.cell?_setCell_same _ _ _ (h.cell t ht)
  · rw [if_neg e, World.cell?_setCell_other _ _ _ _ (fun e2 => e (by cases e2; rfl))]
    exact h.cell t ht
theorem Fl.ext {w : World} {b n : Nat} {f g : Nat → Bool} (h : Fl w b n f) (hg : ∀ t, t < n → g t = f t) : Fl w b n g := ⟨h.lt, fun t ht => by rw [hg t ht]; exact h.cell t ht, h.fz⟩
def fls (d : Nat) : Array Value := madeCells #[.bool false] d
theorem fls_get (d i : Nat) (h : i < d) : (fls d)[i]? = Option.some (.bool false) := by simp [fls, madeCells, h, Nat.mod_one]
theorem Try.infoBool : (Try.prog.info? 4).map (fun i => (i.zero, i.size, i.bytes)) = Option.some (Option.some (.bool false), 1, 1) := by kernel_rfl
theorem make_fls (d : Nat) (hd : d ≤ 2048) (w : World) : (Instr.makeSlice 41 (.int .i64 (d : Int)) (.int .i64 (d : Int))).run Try.prog w = .ok (.slice (Option.some ⟨w.heap.size, 0, Option.none⟩) d d) (w.alloc (.cells (fls d) 4)) := by
  obtain ⟨i0, hi, hz0, hz1, hz2⟩ := info_parts Try.infoBool
  have := run_make (P := Try.prog) w 41 4 i0 _ Try.underlying41 hi hz0 .i64 .i64 (d : Int) (d : Int) (by omega) (by omega) (by rw [hz2]; omega) (by omega)
  rw [this, hz1, Nat.mul_one, Int.toNat_natCast]
  rfl
theorem fls_row (w : World) (d : Nat) : Fl (w.alloc (.cells (fls d) 4)) w.heap.size d (fun _ => false) := by
  have hn := heap_new w (.cells (fls d) 4)
  refine ⟨by simp, fun i hi => ?_, fun i => ?_⟩
  · rw [Lib.cell_of_heap hn, fls_get d i hi]
  · unfold World.frozen?
    simp only
    rw [hn]
    simp
theorem put_grown (w : World) (b j : Nat) (u : Value) : w.grownBy (w.setCell ⟨b, j, Option.none⟩ u) (Option.some b) :=
  ⟨rfl, rfl, rfl, by simp [World.setCell], fun k _ hk => Below.heap_setCell _ _ _ _ (fun e => hk (congrArg Option.some e))⟩
end Go.Proofs.Ytplkbngnnaogkaa
