/-
  OrderTells.
-/
import Derived.Test.YtplkbngnnaogkaaRm
import Derived.Test.YtplkbngnnaogkaaRn
import Derived.Test.YtplkbngnnaogkaaOh
namespace Go.Proofs.Ytplkbngnnaogkaa
open Go.RowKit Go.Maps

def sortAns (L : List Mo) : Int × List Int := if ordE L = 0 then (match sortL L with | none => (9, []) | some S => (0, S.map (ixL L))) else (ordE L, [])
theorem ints_nil (w : World) : IntsIn w (.slice none 0 0) [] := ⟨none, 0, rfl, Or.inl rfl⟩
theorem strs_nil (w : World) : StrsIn w (.slice none 0 0) [] := ⟨none, 0, rfl, Or.inl rfl⟩
theorem sort_ans {L : List Mo} {e : Ending} {w : World} (h : sortEnd L e w) : ∃ v, e = .returned (.tuple #[v, .int .i64 (sortAns L).1]) ∧ IntsIn w v (sortAns L).2 ∧ (sortAns L).2.length ≤ 1000 := by
  rcases h with ⟨h0, rfl⟩ | ⟨h0, h1, rfl⟩ | ⟨S, v, h0, h1, rfl, hv⟩
  · have e : sortAns L = (ordE L, []) := by unfold sortAns; rw [if_neg h0]
    rw [e]
    exact ⟨_, rfl, ints_nil w, by simp⟩
  · have e : sortAns L = (9, []) := by unfold sortAns; rw [if_pos h0, h1]
    rw [e]
    exact ⟨_, rfl, ints_nil w, by simp⟩
  · have e : sortAns L = (0, S.map (ixL L)) := by unfold sortAns; rw [if_pos h0, h1]
    rw [e]
    obtain ⟨h4, _⟩ := ordE_zero h0
    obtain ⟨_, _, h3, _⟩ := Og.sortN_spec L.length [] S h1 List.nodup_nil (fun p hp => by simp at hp) (by simp)
    exact ⟨v, rfl, hv, by simp at h3 ⊢; omega⟩
def NdAns (L : List Mo) (x : ByteArray) (E : Int) (l : List Nm) : Prop :=
  (ordE L ≠ 0 ∧ E = ordE L ∧ l = []) ∨ (ordE L = 0 ∧ x.data.toList ∉ nmL L ∧ E = 5 ∧ l = []) ∨ (ordE L = 0 ∧ x.data.toList ∈ nmL L ∧ E = 0 ∧ NeedsIs L x.data.toList l)
theorem needs_ans {L : List Mo} {x : ByteArray} {e : Ending} {w : World} (h : needsEnd L x e w) : ∃ E l v, e = .returned (.tuple #[v, .int .i64 E]) ∧ StrsIn w v l ∧ NdAns L x E l ∧ l.length ≤ 1000 := by
  rcases h with ⟨h0, rfl⟩ | ⟨h0, h1, rfl⟩ | ⟨l, v, h0, h1, h2, rfl, hv⟩
  · exact ⟨_, [], _, rfl, strs_nil w, Or.inl ⟨h0, rfl, rfl⟩, by simp⟩
  · exact ⟨_, [], _, rfl, strs_nil w, Or.inr (Or.inl ⟨h0, h1, rfl, rfl⟩), by simp⟩
  · have h3 := len_le l (nmL L) h2.need.nodup h2.mem
    rw [nmL_len] at h3
    obtain ⟨h4, _⟩ := ordE_zero h0
    exact ⟨_, l, v, rfl, hv, Or.inr (Or.inr ⟨h0, h1, rfl, h2⟩), by omega⟩
theorem NdAns.one {L : List Mo} {x : ByteArray} {E E' : Int} {l l' : List Nm} (h : NdAns L x E l) (k : NdAns L x E' l') : E' = E ∧ l' = l := by
  rcases h with ⟨h0, rfl, rfl⟩ | ⟨h0, h1, rfl, rfl⟩ | ⟨h0, h1, rfl, h2⟩
  · rcases k with ⟨_, rfl, rfl⟩ | ⟨k0, _⟩ | ⟨k0, _⟩
    · exact ⟨rfl, rfl⟩
    · exact absurd k0 h0
    · exact absurd k0 h0
  · rcases k with ⟨k0, _⟩ | ⟨_, _, rfl, rfl⟩ | ⟨_, k1, _⟩
    · exact absurd h0 k0
    · exact ⟨rfl, rfl⟩
    · exact absurd k1 h1
  · rcases k with ⟨k0, _⟩ | ⟨_, k1, _⟩ | ⟨_, _, rfl, k2⟩
    · exact absurd h0 k0
    · exact absurd h1 k1
    · exact ⟨rfl, needs_one k2 h2⟩
set_option maxRecDepth 100000 in
set_option maxHeartbeats 1600000 in
theorem OrderTells_any (L : List Mo) (a : Option Addr) (cap : Nat) (x : ByteArray) (w : World) (hD : DAt w Tt a L.length (mosD L)) (hS : ∀ m ∈ L, Small m) (hx : x.size ≤ maxLen) :
    Calls Try.prog 3 #[.slice a L.length cap, .string x] w fun e w' => e = .returned (.bool true) ∧ Below w.heap.size w w' := by
  have HD := hid hD
  have HS := hid hS
  clear hD hS
  go_enter Try.func3, Try.ntmps3
  go_wp2_with fail
  refine (Sort_any L a cap _ HD.out).mono ?_
  rintro e w1 ⟨hs1, hb1⟩
  obtain ⟨v1, rfl, hi1, hl1⟩ := sort_ans hs1
  have HI1 := hid hi1
  obtain ⟨a1, c1, rfl, _⟩ := hi1
  clear hs1
  go_wp2_with fail
  refine (Needs_any L a cap x _ (HD.out.later hb1) hx).mono ?_
  rintro e w2 ⟨hs2, hb2⟩
  obtain ⟨E, l, v2, rfl, hi2, hA, hl2⟩ := needs_ans hs2
  have HI2 := hid hi2
  have HA := hid hA
  have HI1' := hid (HI1.out.later hb2)
  have hbb2 := thenB hb1 hb2
  obtain ⟨a2, c2, rfl, _⟩ := hi2
  clear hs2 hb1 hb2 hA HI1
  go_wp2_with fail
  refine (SortOf_any L a cap _ (HD.out.later hbb2) HS.out).mono ?_
  rintro e w3 ⟨hs3, hb3⟩
  obtain ⟨v3, rfl, hi3, _⟩ := sort_ans hs3
  have HI3 := hid hi3
  have HJ1 := hid (HI1'.out.later hb3)
  have HJ2 := hid (HI2.out.later hb3)
  have hbb3 := thenB hbb2 hb3
  obtain ⟨a3, c3, rfl, _⟩ := hi3
  clear hs3 hb3 hbb2 HI1' HI2
  go_wp2_with fail
  refine (NeedsOf_any L a cap x _ (HD.out.later hbb3) HS.out).mono ?_
  rintro e w4 ⟨hs4, hb4⟩
  obtain ⟨E', l', v4, rfl, hi4, hA', _⟩ := needs_ans hs4
  obtain ⟨rfl, rfl⟩ := HA.out.one hA'
  have HI4 := hid hi4
  have HK1 := hid (HJ1.out.later hb4)
  have HK2 := hid (HJ2.out.later hb4)
  have HK3 := hid (HI3.out.later hb4)
  have hbb4 := thenB hbb3 hb4
  obtain ⟨a4, c4, rfl, _⟩ := hi4
  clear hs4 hb4 hbb3 HJ1 HJ2 HI3 hA' HA
  go_wp2_with fail
  refine (orderBegun_any _).mono ?_
  rintro e w5 ⟨rfl, hb5⟩
  have HL1 := hid (HK1.out.later hb5)
  have HL2 := hid (HK2.out.later hb5)
  have HL3 := hid (HK3.out.later hb5)
  have HL4 := hid (HI4.out.later hb5)
  have hbb5 := thenB hbb4 hb5
  clear hb5 hbb4 HK1 HK2 HK3 HI4
  go_wp2_with fail
  refine (SameInts_same _ _ _ _ HL1.out HL3.out hl1).mono ?_
  rintro e w6 ⟨rfl, hb6⟩
  have HM2 := hid (HL2.out.later hb6)
  have HM4 := hid (HL4.out.later hb6)
  have hbb6 := thenB hbb5 hb6
  clear hb6 hbb5 HL1 HL2 HL3 HL4
  go_wp2_with fail
  refine (SameTexts_same _ _ _ _ HM2.out HM4.out hl2).mono ?_
  rintro e w7 ⟨rfl, hb7⟩
  have hbb7 := thenB hbb6 hb7
  clear hb7 hbb6 HM2 HM4
  go_wp2_with fail
  go_ret
  exact ⟨rfl, hbb7⟩
end Go.Proofs.Ytplkbngnnaogkaa
