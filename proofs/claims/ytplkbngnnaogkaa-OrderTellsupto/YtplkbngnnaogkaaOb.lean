/-
  What package order asks of modules first: numbers and check.
-/
import Derived.Test.YtplkbngnnaogkaaOa
namespace Go.Proofs.Ytplkbngnnaogkaa
open Go.RowKit Go.Maps Go.Sort Go.WideMaps

def nmL (L : List Mo) : List Nm := L.map (fun m => m.name.data.toList)
def usesIn (L : List Mo) : Bool := L.all (fun m => m.uses.all (fun u => (nmL L).contains u.data.toList))
def firstErr (L : List Mo) : Int := ((L.find? (fun m => !(m.err == 0))).map Mo.err).getD 0
def ordE (L : List Mo) : Int := if 4 < L.length then 2 else if L.all (fun m => m.err == 0) then (if (nmL L).Nodup then (if usesIn L then 0 else 5) else 6) else firstErr L
theorem nmL_len (L : List Mo) : (nmL L).length = L.length := by simp [nmL]
theorem nmL_snoc (L : List Mo) (j : Nat) (h : j < L.length) : nmL (L.take (j + 1)) = nmL (L.take j) ++ [L[j].name.data.toList] := by
  unfold nmL; rw [List.take_succ_eq_append_getElem h, List.map_append]; rfl
theorem first_at (L : List Mo) (j : Nat) (h : j < L.length) (ha : (L.take j).all (fun m => m.err == 0) = true) (he : (L[j].err == 0) = false) : firstErr L = L[j].err := by
  unfold firstErr
  have : L.find? (fun m => !(m.err == 0)) = some L[j] := by
    rw [List.find?_eq_some_iff_getElem]
    refine ⟨by simp [he], j, h, rfl, fun i hi => ?_⟩
    have := List.all_eq_true.1 ha L[i] (by
      have : (L.take j)[i]'(by simp; omega) = L[i] := List.getElem_take
      rw [← this]; exact List.getElem_mem _)
    simp [this]
  rw [this]; rfl
theorem ordE_first {L : List Mo} (h4 : ¬ 4 < L.length) (j : Nat) (h : j < L.length) (ha : (L.take j).all (fun m => m.err == 0) = true) (he : (L[j].err == 0) = false) : ordE L = L[j].err := by
  unfold ordE; rw [if_neg h4, all_not L (fun m => m.err == 0) j h he, first_at L j h ha he]; rfl
theorem ordE_many {L : List Mo} (h4 : 4 < L.length) : ordE L = 2 := if_pos h4
theorem ordE_there {L : List Mo} (h4 : ¬ 4 < L.length) (ha : L.all (fun m => m.err == 0) = true) (hn : ¬ (nmL L).Nodup) : ordE L = 6 := by unfold ordE; rw [if_neg h4, if_pos ha, if_neg hn]
theorem ordE_none {L : List Mo} (h4 : ¬ 4 < L.length) (ha : L.all (fun m => m.err == 0) = true) (hn : (nmL L).Nodup) (hu : usesIn L = false) : ordE L = 5 := by unfold ordE; rw [if_neg h4, if_pos ha, if_pos hn, if_neg (by simp [hu])]
theorem ordE_ok {L : List Mo} (h4 : ¬ 4 < L.length) (ha : L.all (fun m => m.err == 0) = true) (hn : (nmL L).Nodup) (hu : usesIn L = true) : ordE L = 0 := by unfold ordE; rw [if_neg h4, if_pos ha, if_pos hn, if_pos hu]

set_option maxRecDepth 100000 in
set_option maxHeartbeats 800000 in
theorem numbers_any (L : List Mo) (a : Option Addr) (cap : Nat) (w : World) (hD : DAt w Tt a L.length (mosD L)) :
    Calls Try.prog 16 #[.slice a L.length cap] w fun e w' => ∃ b, e = .returned (.map (some b)) ∧ NumAt w' b (nmL L) ∧ Below w.heap.size w w' := by
  have hbd := hD.bound
  have HD := hid hD
  clear hD
  have hmm := @run_makeMap Try.prog
  have HN := hid (NumAt.made w)
  go_enter Try.func16, Try.ntmps16
  go_wp2_with fail
  go_loopw [9] (fun i wr => ∃ j : Nat, j ≤ L.length ∧ i = .int .i64 j ∧ NumAt wr w.heap.size (nmL (L.take j)) ∧ Below w.heap.size w wr) (fun i _ => L.length - (intOf i).toNat)
  case atStart => exact ⟨0, Nat.zero_le _, rfl, HN.out, al1 _ _⟩
  case round =>
    clear HN
    obtain ⟨j, hj, rfl, hN, hb⟩ := hrel
    by_cases hlt : j < L.length
    · obtain ⟨b, off, v, a1, c1, a2, c2, a3, c3, a4, c4, rfl, hlb, hM, k0, k1, k2, k3, k4⟩ := (HD.out.later hb).mo j hlt
      obtain ⟨w2, hrun, hN2, hg2⟩ := (hN.later (al1 _ (.cells #[.string L[j].name, .slice a1 L[j].uses.length c1, .slice a2 L[j].decls.length c2, .slice a3 L[j].procs.length c3, .slice a4 L[j].main.length c4] 39))).put (by rw [nmL_len, List.length_take]; unfold maxLen; omega) (s := L[j].name) hM.wna
      rw [nmL_len, List.length_take, Nat.min_eq_left (by omega)] at hrun
      rw [← nmL_snoc L j hlt] at hN2
      have hb2 : Below w.heap.size w w2 := (thenB hb (al1 _ _)).grown hg2 (by have := hb.size; simp; omega) (fun k hk => by cases hk; exact Nat.le_refl _)
      have HN2 := hid hN2
      clear hN hM hN2 hg2
      go_wp2_with fail
      go_roundw
      case rel => exact ⟨j + 1, by omega, by go_num, HN2.out, hb2⟩
      case measure => simp [intOf]; omega
    · have hje : j = L.length := by omega
      subst hje
      have HN : Hid (NumAt wr w.heap.size (nmL L)) := by rw [List.take_length] at hN; exact hN
      clear hN
      go_wp2_with fail
      go_ret
      exact ⟨_, rfl, HN.out, hb⟩
set_option maxRecDepth 100000 in
set_option maxHeartbeats 1600000 in
theorem check_any (L : List Mo) (a : Option Addr) (cap : Nat) (w : World) (hD : DAt w Tt a L.length (mosD L)) :
    Calls Try.prog 15 #[.slice a L.length cap] w fun e w' => e = .returned (.int .i64 (ordE L)) ∧ Below w.heap.size w w' := by
  have hbd := hD.bound
  have HD := hid hD
  clear hD
  by_cases h4 : 4 < L.length
  · have HE : Hid (ordE L = 2) := ordE_many h4
    go_enter Try.func15, Try.ntmps15
    go_wp2_with fail
    go_ret
    exact ⟨ret_int HE.out.symm, Below.refl _ _⟩
  go_enter Try.func15, Try.ntmps15
  go_wp2_with fail
  go_loopw [18] (fun i wr => ∃ j : Nat, j ≤ L.length ∧ i = .int .i64 j ∧ (L.take j).all (fun m => m.err == 0) = true ∧ Below w.heap.size w wr) (fun i _ => L.length - (intOf i).toNat)
  case atStart => exact ⟨0, Nat.zero_le _, rfl, rfl, Below.refl _ _⟩
  case round =>
    obtain ⟨j, hj, rfl, hall, hb⟩ := hrel
    have HA := hid hall
    clear hall
    by_cases hlt : j < L.length
    · obtain ⟨b, off, v, a1, c1, a2, c2, a3, c3, a4, c4, rfl, hlb, hM, k0, k1, k2, k3, k4⟩ := (HD.out.later hb).mo j hlt
      have HM := hid hM
      obtain rfl := hM.val
      clear hM
      go_wp2_with fail
      refine (tCheck_any L[j] _ a1 c1 a2 c2 a3 c3 a4 c4 _ (HM.out.later (al1 _ _))).mono ?_
      rintro e w3 ⟨rfl, hb3⟩
      have hb4 := oneB hb hb3
      clear hb3
      cases he : (L[j].err == 0) with
      | true =>
        have HT : Hid ((L.take (j + 1)).all (fun m => m.err == 0) = true) := by
          show _ = _
          rw [all_snoc L _ j hlt, HA.out, he]; rfl
        go_wp2_with fail
        go_roundw
        case rel => exact ⟨j + 1, by omega, by go_num, HT.out, hb4⟩
        case measure => simp [intOf]; omega
      | false =>
        have HE : Hid (ordE L = L[j].err) := ordE_first h4 j hlt HA.out he
        go_wp2_with fail
        go_ret
        exact ⟨ret_int HE.out.symm, hb4⟩
    · have HT : Hid (L.all (fun m => m.err == 0) = true) := all_end HA.out hlt
      clear HA
      go_wp2_with fail
      clear hlt hj
      refine (numbers_any L a cap _ (HD.out.later hb)).mono ?_
      rintro e w3 ⟨b, rfl, hN, hb3⟩
      have hb4 := thenB hb hb3
      clear hb3 hb
      obtain ⟨m, hml, hm1, hm2⟩ := hN.len
      have HN := hid hN
      clear hN
      by_cases hn : (nmL L).Nodup
      · have hm : m = L.length := (hm1 hn).trans (nmL_len L)
        subst hm
        clear hm1 hm2
        go_wp2_with fail
        go_loopw [37] (fun i wr => ∃ j : Nat, j ≤ L.length ∧ i = .int .i64 j ∧ (L.take j).all (fun m => m.uses.all (fun u => (nmL L).contains u.data.toList)) = true ∧ Below w3.heap.size w3 wr) (fun i _ => L.length - (intOf i).toNat)
        case atStart => exact ⟨0, Nat.zero_le _, rfl, rfl, Below.refl _ _⟩
        case round =>
          obtain ⟨j, hj, rfl, hall, hb5⟩ := hrel
          have HA := hid hall
          clear hall
          by_cases hlt : j < L.length
          · obtain ⟨b', off, v, a1, c1, a2, c2, a3, c3, a4, c4, rfl, hlb, hM, k0, k1, k2, k3, k4⟩ := (HD.out.later (thenB hb4 hb5)).mo j hlt
            have HU := hid hM.uses
            have hub := hM.uses.bound
            clear hM
            go_wp2_with fail
            clear k0 k1 k2 k3 k4 hlb
            go_loopw [44] (fun i wr' => ∃ q : Nat, q ≤ L[j].uses.length ∧ i = .int .i64 q ∧ (L[j].uses.take q).all (fun u => (nmL L).contains u.data.toList) = true ∧ Below wr.heap.size wr wr') (fun i _ => L[j].uses.length - (intOf i).toNat)
            case atStart => exact ⟨0, Nat.zero_le _, rfl, rfl, al1 _ _⟩
            case round =>
              obtain ⟨q, hq, rfl, hallu, hb6⟩ := hrel
              have HQ := hid hallu
              clear hallu
              by_cases hqt : q < L[j].uses.length
              · obtain ⟨ub, uo, rfl, hul, huc, hus⟩ := (HU.out.later hb6).str q hqt
                obtain ⟨c, hlk, _⟩ := ((HN.out.later hb5).later hb6).look_ok hus
                cases hin : (nmL L).contains (L[j].uses[q]).data.toList with
                | true =>
                  rw [hin] at hlk
                  have HT' : Hid ((L[j].uses.take (q + 1)).all (fun u => (nmL L).contains u.data.toList) = true) := by
                    show _ = _
                    rw [all_snoc _ _ q hqt, HQ.out, hin]; rfl
                  go_wp2_with fail
                  go_roundw
                  case rel => exact ⟨q + 1, by omega, by go_num, HT'.out, hb6⟩
                  case measure => simp [intOf]; omega
                | false =>
                  rw [hin] at hlk
                  have HE : Hid (ordE L = 5) := ordE_none h4 HT.out hn (all_not L _ j hlt (all_not _ _ q hqt hin))
                  go_wp2_with fail
                  go_ret
                  exact ⟨ret_int HE.out.symm, thenB hb4 (thenB hb5 hb6)⟩
              · have HT' : Hid ((L.take (j + 1)).all (fun m => m.uses.all (fun u => (nmL L).contains u.data.toList)) = true) := by
                  show _ = _
                  rw [all_snoc L _ j hlt, HA.out, all_end HQ.out hqt]; rfl
                go_wp2_with fail
                go_roundw
                case rel => exact ⟨j + 1, by omega, by go_num, HT'.out, thenB hb5 hb6⟩
                case measure => simp [intOf]; omega
          · have HE : Hid (ordE L = 0) := ordE_ok h4 HT.out hn (all_end HA.out hlt)
            go_wp2_with fail
            go_ret
            exact ⟨ret_int HE.out.symm, thenB hb4 hb5⟩
      · have HE : Hid (ordE L = 6) := ordE_there h4 HT.out hn
        have hm : m < L.length := by have := hm2 hn; rw [nmL_len] at this; exact this
        clear hm1 hm2 hn
        go_wp2_with fail
        go_ret
        exact ⟨ret_int HE.out.symm, hb4⟩
end Go.Proofs.Ytplkbngnnaogkaa
