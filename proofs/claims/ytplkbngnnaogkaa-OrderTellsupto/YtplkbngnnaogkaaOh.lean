/-
  What must be in any case, of package order.
-/
import Derived.Test.YtplkbngnnaogkaaOf
namespace Go.Proofs.Ytplkbngnnaogkaa
open Go.RowKit Go.Maps Go.Sort Go.WideMaps

theorem dat_strs {w : World} {b : Nat} {l : List Nm} (h : Blk w b (l.map (fun s => Value.string (strOf s)))) (hs : ∀ s ∈ l, s.length ≤ 1000) (hl : l.length ≤ 1000) : DAt w Tt (some ⟨b, 0, none⟩) l.length (strsD (l.map strOf)) := by
  refine ⟨by simp [strsD], by simp [strsD]; omega, Or.inr ⟨b, 0, _, rfl, trivial, h.lt, fun j u hj => by rw [Nat.zero_add]; exact h.cell j u hj, ?_⟩⟩
  clear h hl
  induction l with
  | nil => exact .nil
  | cons x r ih => exact .cons (dstr (by rw [strOf_size]; have := hs x (by simp); unfold maxLen; omega)) (ih (fun s h => hs s (by simp [h])))
theorem dvals_bare {w : World} {a : Option Addr} {c : Nat} {nm : Nm} {us : List Nm} (hn : nm.length ≤ 1000) (h : DAt w Tt a us.length (strsD (us.map strOf))) : DVals w Tt (bare nm us).ds [.string (strOf nm), .slice a us.length c, .slice none 0 0, .slice none 0 0, .slice none 0 0] := by
  have hu : DVal w Tt (.list (us.map strOf).length (strsD (us.map strOf))) (.slice a us.length c) := by
    rw [List.length_map]; exact h.val
  exact .cons (dstr (by show (strOf nm).size ≤ maxLen; rw [strOf_size]; unfold maxLen; omega)) (.cons hu (.cons dnil (.cons dnil (.cons dnil .nil))))
theorem dat_nil {w : World} {a : Option Addr} : DAt w Tt a 0 (strsD []) := ⟨Nat.le_refl _, by simp [strsD], Or.inl rfl⟩
theorem dat_mods {w : World} {b : Nat} {L : List Mo} {cs : List Value} (h : Blk w b cs) (hd : DVals w Tt (mosD L) cs) (h1 : L.length ≤ (mosD L).length) (h2 : (mosD L).length ≤ 1000) : DAt w Tt (some ⟨b, 0, none⟩) L.length (mosD L) :=
  ⟨h1, by omega, Or.inr ⟨b, 0, cs, rfl, trivial, h.lt, fun j u hj => by rw [Nat.zero_add]; exact h.cell j u hj, hd⟩⟩
theorem three_at (w : World) (c1 c2 : Nat) :
    DAt (((w.alloc (.cells #[.string ⟨#[98]⟩, .string ⟨#[97]⟩] 9)).alloc (.cells #[.string ⟨#[97]⟩] 9)).alloc (.cells #[.string ⟨#[99]⟩, .slice (some ⟨w.heap.size, 0, none⟩) 2 c1, .slice none 0 0, .slice none 0 0, .slice none 0 0, .string ⟨#[98]⟩, .slice (some ⟨w.heap.size + 1, 0, none⟩) 1 c2, .slice none 0 0, .slice none 0 0, .slice none 0 0, .string ⟨#[97]⟩, .slice none 0 0, .slice none 0 0, .slice none 0 0, .slice none 0 0] 39)) Tt (some ⟨w.heap.size + 1 + 1, 0, none⟩) threeL.length (mosD threeL) := by
  refine dat_mods (Blk.new3 w _ _ _ _) ?_ (by decide) (by decide)
  have d1 := dat_strs (l := [[98], [97]]) (((Blk.new w #[.string ⟨#[98]⟩, .string ⟨#[97]⟩] 9).later (al2 _ (.cells #[.string ⟨#[97]⟩] 9) (.cells #[.string ⟨#[99]⟩, .slice (some ⟨w.heap.size, 0, none⟩) 2 c1, .slice none 0 0, .slice none 0 0, .slice none 0 0, .string ⟨#[98]⟩, .slice (some ⟨w.heap.size + 1, 0, none⟩) 1 c2, .slice none 0 0, .slice none 0 0, .slice none 0 0, .string ⟨#[97]⟩, .slice none 0 0, .slice none 0 0, .slice none 0 0, .slice none 0 0] 39)))) (by simp) (by simp)
  have d2 := dat_strs (l := [[97]]) ((Blk.new2 w #[.string ⟨#[97]⟩] 9 (.cells #[.string ⟨#[98]⟩, .string ⟨#[97]⟩] 9)).later (al1 _ (.cells #[.string ⟨#[99]⟩, .slice (some ⟨w.heap.size, 0, none⟩) 2 c1, .slice none 0 0, .slice none 0 0, .slice none 0 0, .string ⟨#[98]⟩, .slice (some ⟨w.heap.size + 1, 0, none⟩) 1 c2, .slice none 0 0, .slice none 0 0, .slice none 0 0, .string ⟨#[97]⟩, .slice none 0 0, .slice none 0 0, .slice none 0 0, .slice none 0 0] 39))) (by simp) (by simp)
  exact (dvals_bare (nm := [99]) (by simp) d1).append ((dvals_bare (nm := [98]) (by simp) d2).append ((dvals_bare (nm := [97]) (us := []) (by simp) dat_nil).append .nil))
set_option maxRecDepth 100000 in
set_option maxHeartbeats 400000 in
theorem three_any (w : World) :
    Calls Try.prog 25 #[] w fun e w' => ∃ a cap, e = .returned (.slice a 3 cap) ∧ DAt w' Tt a threeL.length (mosD threeL) ∧ Below w.heap.size w w' := by
  have HT := hid (three_at w)
  go_enter Try.func25, Try.ntmps25
  go_wp2_with fail
  go_ret
  exact ⟨_, _, rfl, HT.out _ _, al3 _ _ _ _⟩
theorem round_at (w : World) (c1 c2 : Nat) :
    DAt (((w.alloc (.cells #[.string ⟨#[98]⟩] 9)).alloc (.cells #[.string ⟨#[97]⟩] 9)).alloc (.cells #[.string ⟨#[97]⟩, .slice (some ⟨w.heap.size, 0, none⟩) 1 c1, .slice none 0 0, .slice none 0 0, .slice none 0 0, .string ⟨#[98]⟩, .slice (some ⟨w.heap.size + 1, 0, none⟩) 1 c2, .slice none 0 0, .slice none 0 0, .slice none 0 0] 39)) Tt (some ⟨w.heap.size + 1 + 1, 0, none⟩) roundL.length (mosD roundL) := by
  refine dat_mods (Blk.new3 w _ _ _ _) ?_ (by decide) (by decide)
  have d1 := dat_strs (l := [[98]]) (((Blk.new w #[.string ⟨#[98]⟩] 9).later (al2 _ (.cells #[.string ⟨#[97]⟩] 9) (.cells #[.string ⟨#[97]⟩, .slice (some ⟨w.heap.size, 0, none⟩) 1 c1, .slice none 0 0, .slice none 0 0, .slice none 0 0, .string ⟨#[98]⟩, .slice (some ⟨w.heap.size + 1, 0, none⟩) 1 c2, .slice none 0 0, .slice none 0 0, .slice none 0 0] 39)))) (by simp) (by simp)
  have d2 := dat_strs (l := [[97]]) ((Blk.new2 w #[.string ⟨#[97]⟩] 9 (.cells #[.string ⟨#[98]⟩] 9)).later (al1 _ (.cells #[.string ⟨#[97]⟩, .slice (some ⟨w.heap.size, 0, none⟩) 1 c1, .slice none 0 0, .slice none 0 0, .slice none 0 0, .string ⟨#[98]⟩, .slice (some ⟨w.heap.size + 1, 0, none⟩) 1 c2, .slice none 0 0, .slice none 0 0, .slice none 0 0] 39))) (by simp) (by simp)
  exact (dvals_bare (nm := [97]) (by simp) d1).append ((dvals_bare (nm := [98]) (by simp) d2).append .nil)
theorem ints_new (w : World) (l : List Int) (t : TypeId) (n : Nat) (hn : n = w.heap.size) : IntsIn (w.alloc (.cells (l.map (.int .i64)).toArray t)) (.slice (some ⟨n, 0, none⟩) l.length l.length) l := by
  subst hn
  refine ⟨_, _, rfl, Or.inr ⟨_, rfl, by simp, fun j hj => ?_⟩⟩
  exact (Blk.new w _ t).cell j _ (by simp [hj])
theorem strs_new (w : World) (l : List Nm) (t : TypeId) (n : Nat) (hn : n = w.heap.size) : StrsIn (w.alloc (.cells (l.map (fun s => Value.string (strOf s))).toArray t)) (.slice (some ⟨n, 0, none⟩) l.length l.length) l := by
  subst hn
  refine ⟨_, _, rfl, Or.inr ⟨_, rfl, by simp, fun j hj => ?_⟩⟩
  exact (Blk.new w _ t).cell j _ (by simp [hj])
set_option maxRecDepth 100000 in
set_option maxHeartbeats 1600000 in
theorem orderBegun_any (w : World) :
    Calls Try.prog 10 #[] w fun e w' => e = .returned (.bool true) ∧ Below w.heap.size w w' := by
  go_enter Try.func10, Try.ntmps10
  go_wp2_with fail
  refine (three_any _).mono ?_
  rintro e w1 ⟨a1, c1, rfl, hD1, hb1⟩
  go_wp2_with fail
  refine (Sort_any threeL a1 c1 _ hD1).mono ?_
  rintro e w2 ⟨hs, hb2⟩
  rcases hs with ⟨h, _⟩ | ⟨_, h, _⟩ | ⟨S, v, _, hS, rfl, hv⟩
  · exact (h three_ord).elim
  · rw [three_sort] at h; cases h
  rw [three_sort] at hS
  cases hS
  rw [three_ix] at hv
  have HV := hid hv
  have hbb2 := thenB hb1 hb2
  obtain ⟨va, vc, rfl, hx⟩ := hv
  clear hD1 hb1 hb2 hx
  go_wp2_with fail
  refine (three_any _).mono ?_
  rintro e w3 ⟨a2, c2, rfl, hD2, hb3⟩
  have HV3 := hid (HV.out.later hb3)
  have hbb3 := thenB hbb2 hb3
  clear HV hbb2 hb3
  go_wp2_with fail
  refine (Needs_any threeL a2 c2 ⟨#[99]⟩ _ hD2 (by decide)).mono ?_
  rintro e w4 ⟨hs, hb4⟩
  rcases hs with ⟨h, _⟩ | ⟨_, h, _⟩ | ⟨l, u, _, _, hN, rfl, hu⟩
  · exact (h three_ord).elim
  · exact (h (by decide)).elim
  obtain rfl := three_needs hN
  have HU := hid hu
  have HV4 := hid (HV3.out.later hb4)
  have hbb4 := thenB hbb3 hb4
  obtain ⟨ua, uc, rfl, hx⟩ := hu
  clear hD2 hN hb4 HV3 hbb3 hx
  go_wp2_with fail
  refine (Sort_any roundL _ 2 _ (round_at w4 1 1)).mono ?_
  rintro e w5 ⟨hs, hb5⟩
  rcases hs with ⟨h, _⟩ | ⟨_, _, rfl⟩ | ⟨S, v, _, hS, _, _⟩
  · exact (h round_ord).elim
  · have HV5 := hid (HV4.out.later (thenB (al3 _ _ _ _) hb5))
    have HU5 := hid (HU.out.later (thenB (al3 _ _ _ _) hb5))
    have hbb5 := thenB hbb4 (thenB (al3 _ _ _ _) hb5)
    clear HV4 HU hbb4 hb5
    go_wp2_with fail
    refine (SameInts_same _ _ [2, 1, 0] _ (HV5.out.later (al1 _ _)) (ints_new w5 [2, 1, 0] _ _ rfl) (by simp)).mono ?_
    rintro e w6 ⟨rfl, hb6⟩
    have HU6 := hid (HU5.out.later (thenB (al1 _ _) hb6))
    have hbb6 := thenB hbb5 (thenB (al1 _ _) hb6)
    clear HV5 HU5 hbb5 hb6
    go_wp2_with fail
    refine (SameTexts_same _ _ [[97], [98]] _ (HU6.out.later (al1 _ _)) (strs_new w6 [[97], [98]] _ _ rfl) (by simp)).mono ?_
    rintro e w7 ⟨rfl, hb7⟩
    have hbb7 := thenB hbb6 (thenB (al1 _ _) hb7)
    clear HU6 hbb6 hb7
    go_wp2_with fail
    go_ret
    exact ⟨rfl, hbb7⟩
  · rw [round_sort] at hS; cases hS
end Go.Proofs.Ytplkbngnnaogkaa
