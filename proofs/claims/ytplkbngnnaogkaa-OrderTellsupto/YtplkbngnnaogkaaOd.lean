/-
  What Sort answers.
-/
import Derived.Test.YtplkbngnnaogkaaOc
import Derived.Deep.LoopGhost
import Derived.WalkMore
import Derived.Scope
namespace Go.Proofs.Ytplkbngnnaogkaa
open Go.RowKit Go.Maps Go.Sort Go.WideMaps

def gmOf (m : Mo) : Og.Gm := ⟨m.name.data.toList, m.uses.map (fun u => u.data.toList)⟩
def gL (L : List Mo) : List Og.Gm := L.map gmOf
theorem names_gL (L : List Mo) : Og.names (gL L) = nmL L := by simp [Og.names, gL, nmL, gmOf]
def uL (L : List Mo) : Nm → List Nm := Og.useOf (gL L)
def nsL (L : List Mo) : List Nm := (nmL L).mergeSort Og.le
def sortL (L : List Mo) : Option (List Nm) := Og.sortN (nsL L) (uL L) L.length []
def ixL (L : List Mo) (a : Nm) : Int := (((nmL L).idxOf a : Nat) : Int)
theorem mem_nsL {L : List Mo} {a : Nm} : a ∈ nsL L ↔ a ∈ nmL L := (List.mergeSort_perm _ _).mem_iff
theorem nsL_len (L : List Mo) : (nsL L).length = L.length := by unfold nsL; rw [List.length_mergeSort, nmL_len]
theorem ix_lt {L : List Mo} {a : Nm} (h : a ∈ nmL L) : (nmL L).idxOf a < L.length := by rw [← nmL_len L]; exact List.idxOf_lt_length_iff.2 h
theorem ix_name {L : List Mo} {a : Nm} (h : a ∈ nmL L) : (L[(nmL L).idxOf a]'(ix_lt h)).name.data.toList = a := by
  have h0 := List.idxOf_lt_length_iff.2 h
  have : (nmL L)[(nmL L).idxOf a]'h0 = a := List.getElem_idxOf h0
  have e : (nmL L)[(nmL L).idxOf a]'h0 = (L[(nmL L).idxOf a]'(ix_lt h)).name.data.toList := List.getElem_map _
  rw [← e]; exact this
theorem str_ix {L : List Mo} {a : Nm} (h : a ∈ nmL L) : strOf a = (L[(nmL L).idxOf a]'(ix_lt h)).name := by
  have := ix_name h
  rw [← strOf_back (L[(nmL L).idxOf a]'(ix_lt h)).name, this]
theorem ix_inj {L : List Mo} {a b : Nm} (ha : a ∈ nmL L) (hb : b ∈ nmL L) (h : ixL L a = ixL L b) : a = b := by
  have h' : (nmL L).idxOf a = (nmL L).idxOf b := by unfold ixL at h; omega
  have h1 := ix_name ha
  have h2 := ix_name hb
  simp only [h'] at h1
  exact h1.symm.trans h2
theorem cont_ix {L : List Mo} {S : List Nm} (hS : ∀ a ∈ S, a ∈ nmL L) {b : Nm} (hb : b ∈ nmL L) : (S.map (ixL L)).contains (ixL L b) = S.contains b := by
  rw [Bool.eq_iff_iff, List.contains_iff_mem, List.contains_iff_mem, List.mem_map]
  constructor
  · rintro ⟨a, ha, e⟩
    rw [← ix_inj (hS a ha) hb e]; exact ha
  · intro h
    exact ⟨b, h, rfl⟩
theorem uL_at {L : List Mo} (hn : (nmL L).Nodup) {a : Nm} (h : a ∈ nmL L) : uL L a = (L[(nmL L).idxOf a]'(ix_lt h)).uses.map (fun u => u.data.toList) := by
  have hi : (nmL L).idxOf a < (gL L).length := by simp [gL]; exact ix_lt h
  have := Og.useOf_at (L := gL L) (by rw [names_gL]; exact hn) _ hi
  unfold uL
  rw [show ((gL L)[(nmL L).idxOf a]'hi).name = a from by simp only [gL, List.getElem_map, gmOf]; exact ix_name h] at this
  rw [this]
  simp [gL, gmOf]
theorem uses_in {L : List Mo} (h : usesIn L = true) (i : Nat) (hi : i < L.length) : ∀ u ∈ L[i].uses, u.data.toList ∈ nmL L := fun u hu => by
  have := List.all_eq_true.1 (List.all_eq_true.1 h L[i] (List.getElem_mem hi)) u hu
  simpa using this
theorem free_eq {L : List Mo} (hn : (nmL L).Nodup) (hu : usesIn L = true) {S : List Nm} (hS : ∀ a ∈ S, a ∈ nmL L) {a : Nm} (h : a ∈ nmL L) :
    (!(S.map (ixL L)).contains (ixL L a) && (L[(nmL L).idxOf a]'(ix_lt h)).uses.all (thereB (nmL L) (S.map (ixL L)))) = Og.freeB (uL L) S a := by
  unfold Og.freeB
  rw [cont_ix hS h, uL_at hn h, List.all_map]
  congr 1
  have : ∀ l : List ByteArray, (∀ u ∈ l, u.data.toList ∈ nmL L) → l.all (thereB (nmL L) (S.map (ixL L))) = l.all ((fun u => S.contains u) ∘ (fun u : ByteArray => u.data.toList)) := by
    intro l hl
    induction l with
    | nil => rfl
    | cons x r ih =>
      rw [List.all_cons, List.all_cons, ih (fun u hu => hl u (by simp [hu]))]
      congr 1
      exact cont_ix hS (hl x (by simp))
  exact this _ (uses_in hu _ (ix_lt h))
theorem ordE_zero {L : List Mo} (h : ordE L = 0) : L.length ≤ 4 ∧ L.all (fun m => m.err == 0) = true ∧ (nmL L).Nodup ∧ usesIn L = true := by
  unfold ordE at h
  split at h
  · cases h
  · rename_i h4
    split at h
    · rename_i ha
      split at h
      · rename_i hn
        split at h
        · rename_i hu
          exact ⟨by omega, ha, hn, hu⟩
        · cases h
      · cases h
    · rename_i ha
      exfalso
      have ha' : L.all (fun m => m.err == 0) = false := by simpa using ha
      obtain ⟨m, hm, he⟩ := List.all_eq_false.1 ha'
      have hs : (L.find? (fun m => !(m.err == 0))).isSome = true := List.find?_isSome.2 ⟨m, hm, by simpa using he⟩
      obtain ⟨x, hx⟩ := Option.isSome_iff_exists.1 hs
      have hx' := List.find?_some hx
      unfold firstErr at h
      rw [hx] at h
      simp at h hx'
      exact hx' h
theorem ownsRow_later {w w' : World} {base : Nat} {e : TypeId} {size : Nat} {v : Value} {n : Nat} {xs : List Value} (h : w.ownsRow base e size v n xs) (hb : Below w.heap.size w w') : w'.ownsRow base e size v n xs := by
  refine ⟨h.1, ?_⟩
  rcases h.2 with h2 | ⟨g, cap, cur, h1, hbs, hg, hr⟩
  · exact Or.inl h2
  · exact Or.inr ⟨g, cap, cur, h1, hbs, (hb.block g (Array.getElem?_eq_some_iff.1 hg |>.1)).trans hg, hr⟩
theorem StrsIn.at {w : World} {a : Option Addr} {n cap : Nat} {l : List Nm} (h : StrsIn w (.slice a n cap) l) {j : Nat} (hj : j < l.length) : ∃ b, a = some ⟨b, 0, none⟩ ∧ b < w.heap.size ∧ w.cell? ⟨b, j, none⟩ = some (.string (strOf l[j])) := by
  obtain ⟨a', cap', e, h⟩ := h
  injection e with e1 e2 e3
  subst e1
  rcases h with h | ⟨b, h1, h2, h3⟩
  · subst h; simp at hj
  · exact ⟨b, h1, h2, h3 j hj⟩
theorem Try.infoInt : (Try.prog.info? 3).map (fun i => (i.zero, i.size, i.bytes)) = some (some (.int .i64 0), 1, 8) := by kernel_rfl
def sortEnd (L : List Mo) (e : Ending) (w : World) : Prop :=
  (ordE L ≠ 0 ∧ e = .returned (.tuple #[.slice none 0 0, .int .i64 (ordE L)])) ∨
  (ordE L = 0 ∧ sortL L = none ∧ e = .returned (.tuple #[.slice none 0 0, .int .i64 9])) ∨
  ∃ S v, ordE L = 0 ∧ sortL L = some S ∧ e = .returned (.tuple #[v, .int .i64 0]) ∧ IntsIn w v (S.map (ixL L))
set_option maxRecDepth 100000 in
set_option maxHeartbeats 1600000 in
theorem Sort_any (L : List Mo) (a : Option Addr) (cap : Nat) (w : World) (hD : DAt w Tt a L.length (mosD L)) :
    Calls Try.prog 6 #[.slice a L.length cap] w fun e w' => sortEnd L e w' ∧ Below w.heap.size w w' := by
  have hbd := hD.bound
  have HD := hid hD
  clear hD
  go_enter Try.func6, Try.ntmps6
  go_wp2_with fail
  go_step3
  go_wp2_with fail
  refine (check_any L a cap _ HD.out).mono ?_
  rintro e w1 ⟨rfl, hb1⟩
  by_cases he : ordE L = 0
  · obtain ⟨h4, hal, hn, hu⟩ := ordE_zero he
    have HE := hid he
    rw [he]
    clear he hal
    go_wp2_with fail
    refine (numbers_any L a cap _ (HD.out.later hb1)).mono ?_
    rintro e w2 ⟨b, rfl, hN, hb2⟩
    have HN := hid hN
    have hbb2 := thenB hb1 hb2
    clear hb2 hb1 hN
    go_wp2_with fail
    refine (keysNum_any (some b) _).mono ?_
    rintro e w3 ⟨rfl, rfl⟩
    go_wp2_with fail
    refine (sortedNum_any b w2 (nmL L) HN.out hn (by rw [nmL_len]; omega)).mono ?_
    rintro e w5 ⟨v, rfl, hV, hb5⟩
    have HV : Hid (StrsIn w5 v (nsL L)) := hV
    have hbb5 := thenB hbb2 hb5
    have HN5 := hid (HN.out.later hb5)
    obtain ⟨va, vc, rfl, hx⟩ := hV
    clear hx
    rw [show ((nmL L).mergeSort Og.le).length = L.length from nsL_len L] at *
    clear hb5 hbb2 HN
    have HB := hid hbb5
    clear hbb5
    have HI : Hid (∃ i0, Try.prog.info? 3 = some i0 ∧ i0.zero = some (.int .i64 0) ∧ i0.size = 1 ∧ i0.bytes = 8) := info_parts Try.infoInt
    go_wp2_with fail
    go_step3
    go_wp2_with fail
    go_loopg [7] L.length (fun g v wr => ∃ S : List Nm, S.length + g = L.length ∧ (∀ x ∈ S, x ∈ nmL L) ∧ Hid (Og.sortN (nsL L) (uL L) g S = sortL L) ∧ wr.ownsRow w5.heap.size 3 1 v S.length ((S.map (ixL L)).map (.int .i64)) ∧ Below w5.heap.size w5 wr)
    case atStart => exact ⟨[], by simp, by simp, rfl, World.ownsRow_nil _ _ _ _, Below.refl _ _⟩
    case round =>
      obtain ⟨S, hSg, hS, HG, hrow, hbx⟩ := hrel
      have hI := IntsIn.of_row hrow (by simp)
      have HZ := hid hI
      have HO := hid hrow
      have HL : Hid (∀ k, u7.ownBlock = some k → w5.heap.size ≤ k ∧ k < wr.heap.size) := hrow.lt
      obtain ⟨sa, sc, rfl, hx⟩ := hI
      clear hx
      clear hrow
      rw [List.length_map] at *
      cases gk with
      | zero =>
        have hSL : S.length = L.length := by omega
        have HR : Hid (sortL L = some S) := by have := HG.out; simp [Og.sortN] at this; exact this.symm
        go_wp2_with fail
        try rw [Exit.noGoto_ret]
        go_ret2
        exact ⟨Or.inr (Or.inr ⟨S, _, HE.out, HR.out, rfl, HZ.out⟩), thenB HB.out hbx⟩
      | succ g =>
        have hSL : S.length < L.length := by omega
        go_wp2_with fail
        go_loopg [28, 7] L.length (fun g2 i v wy => ∃ q : Nat, q + g2 = L.length ∧ i = .int .i64 q ∧ v = .slice sa S.length sc ∧ Hid (((nsL L).take q).all (fun x => !Og.freeB (uL L) S x) = true) ∧ Below wr.heap.size wr wy)
        case atStart => exact ⟨0, by omega, rfl, rfl, rfl, Below.refl _ _⟩
        case round =>
          obtain ⟨q, hqg, rfl, rfl, HQ, hby⟩ := hrel
          cases gk with
          | zero =>
            have hqL : ¬ ((q : Int) < (L.length : Int)) := by omega
            have HR : Hid (sortL L = none) := by
              have h1 := HG.out
              have h2 : (nsL L).find? (Og.freeB (uL L) S) = none := by
                rw [List.find?_eq_none]
                intro x hx hf
                have := List.all_eq_true.1 HQ.out x (by rw [List.take_of_length_le (by rw [nsL_len]; omega)]; exact hx)
                rw [hf] at this
                cases this
              simp only [Og.sortN, h2] at h1
              exact h1.symm
            go_wp2_with fail
            try rw [Exit.noGoto_ret]
            go_ret2
            exact ⟨Or.inr (Or.inl ⟨HE.out, HR.out, rfl⟩), thenB HB.out (thenB hbx hby)⟩
          | succ g2 =>
            have hqL : (q : Int) < (L.length : Int) := by omega
            have hq' : q < (nsL L).length := by rw [nsL_len]; omega
            have hbz := thenB hbx hby
            obtain ⟨nb, rfl, hnb, hnc⟩ := (HV.out.later hbz).at hq'
            have ha : (nsL L)[q] ∈ nmL L := mem_nsL.1 (List.getElem_mem hq')
            have HF := hid (free_eq hn hu hS ha)
            have hi := ix_lt ha
            have hnm := str_ix ha
            obtain ⟨b', off, v, a1, c1, a2, c2, a3, c3, a4, c4, rfl, hlb, hM, k0, k1, k2, k3, k4⟩ := (HD.out.later (thenB HB.out hbz)).mo _ hi
            have hlk := (HN5.out.later hbz).look hn (s := strOf (nsL L)[q]) (by rw [hnm]; exact hM.wna) (by rw [strOf_list]; exact ha)
            rw [strOf_list] at hlk
            have HC := hid (contains_any _ _ (ixL L (nsL L)[q]) _ (by simp; omega) (HZ.out.later hby))
            have HU := hid (fun w6 (hb6 : Below wr.heap.size wr w6) => usesAre_any _ _ a1 c1 a2 c2 a3 c3 a4 c4 b (.slice sa S.length sc) (nmL L) (S.map (ixL L)) w6 (hM.later hb6) hn (uses_in hu _ hi) ((HN5.out.later hbz).later hb6) ((HZ.out.later hby).later hb6) (by simp; omega))
            obtain rfl := hM.val
            clear hM hnm
            have HS : Hid (((nsL L).take (q + 1)).all (fun x => !Og.freeB (uL L) S x) = !Og.freeB (uL L) S (nsL L)[q]) := by
              show _ = _
              rw [all_snoc _ _ q hq', HQ.out]; rfl
            simp only [ixL] at HC HF
            have hiZ : ((nmL L).idxOf (nsL L)[q] : Int) < (L.length : Int) := by omega
            cases hct : (S.map (ixL L)).contains (((nmL L).idxOf (nsL L)[q] : Nat) : Int) with
            | true =>
              have HT : Hid (((nsL L).take (q + 1)).all (fun x => !Og.freeB (uL L) S x) = true) := by
                show _ = _
                rw [HS.out, ← HF.out, hct]; rfl
              rw [hct] at HC
              clear HF HU HS
              go_wp2_with fail
              refine HC.out.mono ?_
              rintro e w6 ⟨rfl, rfl⟩
              go_wp2_with fail
              go_roundg g2
              case measure => omega
              case rel => exact ⟨q + 1, by omega, by go_num, rfl, HT.out, hby⟩
            | false =>
              rw [hct] at HC
              go_wp2_with fail
              refine HC.out.mono ?_
              rintro e w6 ⟨rfl, rfl⟩
              go_wp2_with fail
              refine (HU.out _ (Below.refl _ _)).mono ?_
              cases hua : L[(nmL L).idxOf (nsL L)[q]].uses.all (thereB (nmL L) (S.map (ixL L))) with
              | false =>
                have HT : Hid (((nsL L).take (q + 1)).all (fun x => !Og.freeB (uL L) S x) = true) := by
                  show _ = _
                  rw [HS.out, ← HF.out, hua, Bool.and_false]; rfl
                rintro e w7 ⟨rfl, hb7⟩
                have hby7 := thenB hby hb7
                clear HF HU HS
                go_wp2_with fail
                go_roundg g2
                case measure => omega
                case rel => exact ⟨q + 1, by omega, by go_num, rfl, HT.out, hby7⟩
              | true =>
                have HT : Hid (Og.freeB (uL L) S (nsL L)[q] = true) := by
                  show _ = _
                  rw [← HF.out, hua, hct]; rfl
                rintro e w7 ⟨rfl, hb7⟩
                have hby7 := thenB hby hb7
                have HO7 := hid (ownsRow_later HO.out hby7)
                have HL7 : Hid (∀ k, (Value.slice sa S.length sc).ownBlock = some k → w5.heap.size ≤ k) := fun k hk => (HL.out k hk).1
                have hb57 := thenB hbx hby7
                have hsz := hb57.size
                obtain ⟨i0, hi0, hz0, hz1, hz2⟩ := HI.out
                clear HF HU HS hby7 hb7
                go_wp2_with (at_builtin; refine wpList_append_lies _ rfl _ _ 23 rfl w5.heap.size 3 i0 _ 1 8 Try.underlying23 hi0 hz0 hz1 hz2 rfl (by decide) _ S.length ((S.map (ixL L)).map (.int .i64)) rfl (HO7.out.alloc _) _ 1 1 [.int .i64 (((nmL L).idxOf (nsL L)[q] : Nat) : Int)] rfl rfl (one_new _ _ _ _ (by simp)) (by simp [Value.oneCell']) (by omega) (by unfold maxLen; omega) (by omega) (by simp; omega) _ rfl ?_; intro gb cp w8 hown8 hg8 hat8 hlt8)
                have hg : w7.grownBy w8 (Value.slice sa S.length sc).ownBlock := (World.grownBy_alloc w7 _ _).trans hg8
                have hb8 : Below w5.heap.size w5 w8 := hb57.grown hg hsz (fun k hk => HL7.out k hk)
                have HX : Hid (Og.sortN (nsL L) (uL L) g (S ++ [(nsL L)[q]]) = sortL L) := by
                  have h1 := HG.out
                  have h2 : (nsL L).find? (Og.freeB (uL L) S) = some (nsL L)[q] := by
                    rw [List.find?_eq_some_iff_getElem]
                    refine ⟨HT.out, q, hq', rfl, fun j hj => ?_⟩
                    have := List.all_eq_true.1 HQ.out (nsL L)[j] (by
                      have e : ((nsL L).take q)[j]'(by simp; omega) = (nsL L)[j] := List.getElem_take
                      rw [← e]; exact List.getElem_mem _)
                    simpa using this
                  simp only [Og.sortN, h2] at h1
                  exact h1
                have HW : Hid (w8.ownsRow w5.heap.size 3 1 (.slice (some ⟨gb, 0, none⟩) (S.length + 1) cp) (S ++ [(nsL L)[q]]).length (((S ++ [(nsL L)[q]]).map (ixL L)).map (.int .i64))) := by
                  rw [List.length_append, List.map_append, List.map_append]
                  exact hown8
                clear hown8 hg8 hat8 hg
                go_roundg g
                case measure => omega
                case rel => exact ⟨S ++ [(nsL L)[q]], by simp; omega, fun x hx => by
                  rcases List.mem_append.1 hx with h | h
                  · exact hS x h
                  · simp at h; rw [h]; exact ha, HX.out, HW.out, hb8⟩
  · have hne : (ordE L == 0) = false := by simpa using he
    go_wp2_with fail
    try rw [Exit.noGoto_ret]
    go_ret2
    exact ⟨Or.inl ⟨he, rfl⟩, hb1⟩
end Go.Proofs.Ytplkbngnnaogkaa
