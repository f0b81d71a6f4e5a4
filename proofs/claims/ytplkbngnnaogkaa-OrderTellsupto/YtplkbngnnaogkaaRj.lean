/-
  The document's CheckModule, twice, moduleNamed and OrderError.
-/
import Derived.Test.YtplkbngnnaogkaaRh
import Derived.Test.YtplkbngnnaogkaaRga
import Derived.Test.YtplkbngnnaogkaaRgb
import Derived.Test.YtplkbngnnaogkaaRgc
import Derived.Test.YtplkbngnnaogkaaOf
namespace Go.Proofs.Ytplkbngnnaogkaa
open Go.RowKit Go.Maps

set_option maxRecDepth 100000 in
set_option maxHeartbeats 1600000 in
theorem CheckModule_any (m : Mo) (v : Value) (a1 : Option Addr) (c1 : Nat) (a2 : Option Addr) (c2 : Nat) (a3 : Option Addr) (c3 : Nat) (a4 : Option Addr) (c4 : Nat) (w : World) (hM : MoAt w Tt m v a1 c1 a2 c2 a3 c3 a4 c4) (hs : Small m) :
    Calls Try.prog 34 #[v] w fun e w' => e = .returned (.int .i64 m.err) ∧ Below w.heap.size w w' := by
  have HS := hid hs
  obtain rfl := hM.val
  have HM := hid hM
  clear hM hs
  have HB : Hid (Blk (w.alloc (.cells #[.string m.name, .slice a1 m.uses.length c1, .slice a2 m.decls.length c2, .slice a3 m.procs.length c3, .slice a4 m.main.length c4] 39)) w.heap.size [.string m.name, .slice a1 m.uses.length c1, .slice a2 m.decls.length c2, .slice a3 m.procs.length c3, .slice a4 m.main.length c4]) := Blk.new w _ _
  have HE : Hid (m.err = if m.kinds then (if m.many then 2 else (if m.form then 0 else 1)) else 4) := rfl
  go_enter Try.func34, Try.ntmps34
  go_wp2_with fail
  refine (moduleLook1_any m _ a1 c1 a2 c2 a3 c3 a4 c4 _ (HM.out.later (al1 _ _)) HS.out).mono ?_
  rw [mL1_kinds]
  cases hk : m.kinds with
  | false =>
    rintro e w1 ⟨rfl, hb1⟩
    have HF : Hid (m.err = 4) := by show _ = _; rw [HE.out, hk]; rfl
    go_wp2_with fail
    go_ret
    exact ⟨ret_int HF.out.symm, thenB (al1 _ _) hb1⟩
  | true =>
    rintro e w1 ⟨rfl, hb1⟩
    have hb1' := thenB (al1 _ _) hb1
    have B1 := HB.out.later hb1
    clear HB hb1
    obtain ⟨y0, y1, y2, y3, y4, yz⟩ := B1.c5
    have HB := hid B1
    clear B1
    go_wp2_with fail
    refine (moduleLook2_any m _ a1 c1 a2 c2 a3 c3 a4 c4 _ (HM.out.later hb1') HS.out).mono ?_
    rw [mL2_many]
    cases hm : m.many with
    | true =>
      rintro e w2 ⟨rfl, hb2⟩
      have HF : Hid (m.err = 2) := by show _ = _; rw [HE.out, hk, hm]; rfl
      go_wp2_with fail
      go_ret
      exact ⟨ret_int HF.out.symm, thenB hb1' hb2⟩
    | false =>
      rintro e w2 ⟨rfl, hb2⟩
      have hb2' := thenB hb1' hb2
      have B1 := HB.out.later hb2
      clear HB hb2 hb1' y0 y1 y2 y3 y4 yz
      obtain ⟨y0, y1, y2, y3, y4, yz⟩ := B1.c5
      clear B1
      go_wp2_with fail
      refine (moduleLook3_any m _ a1 c1 a2 c2 a3 c3 a4 c4 _ (HM.out.later hb2') HS.out).mono ?_
      rw [mL3_form m hk hm]
      cases hf : m.form with
      | true =>
        rintro e w3 ⟨rfl, hb3⟩
        have HF : Hid (m.err = 0) := by show _ = _; rw [HE.out, hk, hm, hf]; rfl
        go_wp2_with fail
        go_ret
        exact ⟨ret_int HF.out.symm, thenB hb2' hb3⟩
      | false =>
        rintro e w3 ⟨rfl, hb3⟩
        have HF : Hid (m.err = 1) := by show _ = _; rw [HE.out, hk, hm, hf]; rfl
        go_wp2_with fail
        go_ret
        exact ⟨ret_int HF.out.symm, thenB hb2' hb3⟩
def mnI (L : List Mo) (x : ByteArray) : Int := if (nmL L).contains x.data.toList then (((nmL L).idxOf x.data.toList : Nat) : Int) else -1
theorem nm_at (L : List Mo) (j : Nat) (h : j < L.length) : (nmL L)[j]? = some L[j].name.data.toList := by simp [nmL, h]
theorem mn_found {L : List Mo} {x : ByteArray} (hn : (nmL L).Nodup) (j : Nat) (h : j < L.length) (he : (L[j].name.toList == x.toList) = true) : mnI L x = j := by
  have e : x.data.toList = L[j].name.data.toList := by rw [str_eq] at he; simpa using he
  have h1 := nm_at L j h
  unfold mnI
  rw [if_pos (by simp only [List.contains_iff_mem]; rw [e]; exact List.mem_of_getElem? h1), e, idx_of hn h1]
theorem mn_not {L : List Mo} {x : ByteArray} (h : L.any (fun m => m.name.toList == x.toList) = false) : mnI L x = -1 := by
  unfold mnI
  rw [if_neg]
  intro hc
  simp only [List.contains_iff_mem, nmL, List.mem_map] at hc
  obtain ⟨m, hm, e⟩ := hc
  have := List.any_eq_false.1 h m hm
  rw [str_eq] at this
  simp [e] at this
set_option maxRecDepth 100000 in
set_option maxHeartbeats 800000 in
theorem moduleNamed_any (L : List Mo) (a : Option Addr) (cap : Nat) (x : ByteArray) (w : World) (hD : DAt w Tt a L.length (mosD L)) (hn : (nmL L).Nodup) :
    Calls Try.prog 24 #[.slice a L.length cap, .string x] w fun e w' => e = .returned (.int .i64 (mnI L x)) ∧ w' = w := by
  have hbd := hD.bound
  have HD := hid hD
  have HN := hid hn
  clear hD hn
  go_enter Try.func24, Try.ntmps24
  go_wp2_with fail
  go_loopw [5] (fun i wr => ∃ j : Nat, j ≤ L.length ∧ i = .int .i64 j ∧ (L.take j).any (fun m => m.name.toList == x.toList) = false ∧ wr = w) (fun i _ => L.length - (intOf i).toNat)
  case atStart => exact ⟨0, Nat.zero_le _, rfl, rfl, rfl⟩
  case round =>
    obtain ⟨j, hj, rfl, hall, hwr⟩ := hrel
    obtain rfl := hwr.symm
    have HA := hid hall
    clear hall
    by_cases hlt : j < L.length
    · obtain ⟨b, off, v, a1, c1, a2, c2, a3, c3, a4, c4, rfl, hlb, hM, k0, k1, k2, k3, k4⟩ := HD.out.mo j hlt
      clear hM k1 k2 k3 k4
      cases he : (L[j].name.toList == x.toList) with
      | true =>
        have HF : Hid (mnI L x = j) := mn_found HN.out j hlt he
        go_wp2_with fail
        go_ret
        exact ⟨ret_int HF.out.symm, rfl⟩
      | false =>
        have HT : Hid ((L.take (j + 1)).any (fun m => m.name.toList == x.toList) = false) := by
          show _ = _
          rw [any_snoc L _ j hlt, HA.out, he]; rfl
        go_wp2_with fail
        go_roundw
        case rel => exact ⟨j + 1, by omega, by go_num, HT.out, by first | rfl | trivial⟩
        case measure => simp [intOf]; omega
    · have HF : Hid (mnI L x = -1) := mn_not (any_end HA.out hlt)
      go_wp2_with fail
      go_ret
      exact ⟨ret_int HF.out.symm, rfl⟩
abbrev SRow (w : World) (a : Option Addr) (l : List ByteArray) : Prop := ∀ j (hj : j < l.length), ∃ b, a = some ⟨b, 0, none⟩ ∧ b < w.heap.size ∧ w.cell? ⟨b, j, none⟩ = some (.string l[j])
def toN (l : List ByteArray) : List Nm := l.map (fun s => s.data.toList)
theorem toN_at (l : List ByteArray) (j : Nat) (h : j < l.length) : (toN l)[j]? = some l[j].data.toList := by simp [toN, h]
theorem toN_snoc (l : List ByteArray) (j : Nat) (h : j < l.length) (hn : (toN (l.take j)).Nodup) (hx : (l.take j).any (fun s => s.toList == l[j].toList) = false) : (toN (l.take (j + 1))).Nodup := by
  have e : toN (l.take (j + 1)) = toN (l.take j) ++ [l[j].data.toList] := by unfold toN; rw [List.take_succ_eq_append_getElem h, List.map_append]; rfl
  rw [e, List.nodup_append]
  refine ⟨hn, by simp, fun y hy z hz e2 => ?_⟩
  have hz' : z = l[j].data.toList := by simpa using hz
  subst hz'
  obtain ⟨s, hs, rfl⟩ := List.mem_map.1 hy
  have := List.any_eq_false.1 hx s hs
  rw [str_eq] at this
  simp [e2] at this
theorem toN_dup (l : List ByteArray) (j t : Nat) (h : j < l.length) (ht : t < j) (he : (l[j].toList == (l[t]'(by omega)).toList) = true) : ¬ (toN l).Nodup := by
  intro hn
  have e : (l[t]'(by omega)).data.toList = l[j].data.toList := by rw [str_eq] at he; simpa using he
  have h1 := idx_of hn (toN_at l j h)
  have h2 := idx_of hn (toN_at l t (by omega))
  rw [e] at h2
  omega
set_option maxRecDepth 100000 in
set_option maxHeartbeats 800000 in
theorem twice_any (l : List ByteArray) (a : Option Addr) (cap : Nat) (w : World) (hc : SRow w a l) (hl : l.length ≤ 1000) :
    Calls Try.prog 35 #[.slice a l.length cap] w fun e w' => e = .returned (.bool (!decide (toN l).Nodup)) ∧ Below w.heap.size w w' := by
  have HC := hid hc
  clear hc
  go_enter Try.func35, Try.ntmps35
  go_wp2_with fail
  go_loopw [3, 4] (fun i _ wr => ∃ j : Nat, j ≤ l.length ∧ i = .int .i64 j ∧ (toN (l.take j)).Nodup ∧ Below w.heap.size w wr) (fun i _ _ => l.length - (intOf i).toNat)
  case atStart => exact ⟨0, Nat.zero_le _, rfl, by simp [toN], Below.refl _ _⟩
  case round =>
    obtain ⟨j, hj, rfl, hnd, hb⟩ := hrel
    have HN := hid hnd
    clear hnd
    by_cases hlt : j < l.length
    · go_wp2_with fail
      go_loopw [4] (fun i wr => ∃ t : Nat, t ≤ j ∧ i = .int .i64 t ∧ (l.take t).any (fun s => s.toList == l[j].toList) = false ∧ Below w.heap.size w wr) (fun i _ => j - (intOf i).toNat)
      case atStart => exact ⟨0, Nat.zero_le _, rfl, rfl, hb⟩
      case round =>
        clear hb
        obtain ⟨t, ht, rfl, hall, hb⟩ := hrel
        have HA := hid hall
        clear hall
        by_cases htl : t < j
        · obtain ⟨b, rfl, hbl, hcj⟩ := HC.out j hlt
          obtain ⟨b', e, _, hct⟩ := HC.out t (by omega)
          cases e
          have kj : wr.cell? ⟨b, j, none⟩ = some (.string l[j]) := (hb.cell (p := ⟨b, j, none⟩) hbl).trans hcj
          have kt : wr.cell? ⟨b, t, none⟩ = some (.string (l[t]'(by omega))) := (hb.cell (p := ⟨b, t, none⟩) hbl).trans hct
          have hbw : b < wr.heap.size := Nat.lt_of_lt_of_le hbl hb.size
          have i1 : ((t : Nat) : Int) < (l.length : Int) := by omega
          have i2 : ((j : Nat) : Int) < (l.length : Int) := by omega
          clear hcj hct hbl
          cases he : (l[j].toList == (l[t]'(by omega)).toList) with
          | true =>
            have HF : Hid ((!decide (toN l).Nodup) = true) := by show _ = _; simp [toN_dup l j t hlt htl he]
            go_wp2_with fail
            go_quiet ((fail))
            go_wp2_with fail
            go_ret
            exact ⟨ret_bool HF.out.symm, below_drewN hb _⟩
          | false =>
            have HT : Hid ((l.take (t + 1)).any (fun s => s.toList == l[j].toList) = false) := by
              show _ = _
              rw [any_snoc l _ t (by omega), HA.out]
              have e2 : ((l[t]'(by omega)).toList == l[j].toList) = false := by rw [← he, Bool.eq_iff_iff]; simp only [beq_iff_eq]; exact ⟨Eq.symm, Eq.symm⟩
              rw [e2]; rfl
            go_wp2_with fail
            go_quiet ((fail))
            go_wp2_with fail
            go_roundw
            case rel => exact ⟨t + 1, by omega, by go_num, HT.out, below_drewN hb _⟩
            case measure => simp [intOf]; omega
        · have htj : t = j := by omega
          subst htj
          have HT : Hid ((toN (l.take (t + 1))).Nodup) := toN_snoc l t hlt HN.out HA.out
          go_wp2_with fail
          go_roundw
          case rel => exact ⟨t + 1, by omega, by go_num, HT.out, hb⟩
          case measure => simp [intOf]; omega
    · have HF : Hid ((!decide (toN l).Nodup) = false) := by
        show _ = _
        have h1 := HN.out
        rw [List.take_of_length_le (by omega)] at h1
        simp [h1]
      go_wp2_with fail
      go_ret
      exact ⟨ret_bool HF.out.symm, hb⟩
end Go.Proofs.Ytplkbngnnaogkaa
