/-
  What must be in any case, of package tree.
-/
import Derived.Test.YtcekpobmbmnplaaGreatDoorVd
import Derived.Deep.RegionHeld
namespace Go.Proofs.YtcekpobmbmnplaaGreatDoor
open Go.RowKit
set_option maxRecDepth 100000

/- The two modules that were read, as they lie there. -/
structure Bg (w W : World) (b3 b7 : Nat) (x1 : Option Addr) (y1 : Nat) (x2 : Option Addr) (y2 : Nat) (x3 : Option Addr) (y3 : Nat) (x4 : Option Addr) (y4 : Nat) (z1 : Option Addr) (d1 : Nat) (z2 : Option Addr) (d2 : Nat) (z3 : Option Addr) (d3 : Nat) (b o d4 : Nat) : Prop where
  below : Below w.heap.size w W
  h3 : W.heap[b3]? = some (.cells #[.string ⟨#[99, 110, 116]⟩, .slice x1 0 y1, .slice x2 3 y2, .slice x3 1 y3, .slice x4 0 y4] 27 (0, 0))
  m3 : MoAt W Tt cntMo (.agg #[.string ⟨#[99, 110, 116]⟩, .slice x1 0 y1, .slice x2 3 y2, .slice x3 1 y3, .slice x4 0 y4]) x1 y1 x2 y2 x3 y3 x4 y4
  h7 : W.heap[b7]? = some (.cells #[.string ⟨#[116, 111, 112]⟩, .slice z1 1 d1, .slice z2 0 d2, .slice z3 0 d3, .slice (some ⟨b, o, none⟩) 3 d4] 27 (0, 0))
  c7 : W.cell? ⟨b, o + 1, none⟩ = some (.string ⟨#[99, 110, 116]⟩)
  lt : b < W.heap.size
theorem Bg.later {w W W' : World} {b3 b7 : Nat} {x1 x2 x3 x4 z1 z2 z3 : Option Addr} {y1 y2 y3 y4 d1 d2 d3 b o d4 : Nat} (h : Bg w W b3 b7 x1 y1 x2 y2 x3 y3 x4 y4 z1 d1 z2 d2 z3 d3 b o d4) (hb : Below W.heap.size W W') : Bg w W' b3 b7 x1 y1 x2 y2 x3 y3 x4 y4 z1 d1 z2 d2 z3 d3 b o d4 :=
  ⟨h.below.trans (hb.mono h.below.size), (hb.block _ (lt_of_heap h.h3)).trans h.h3, h.m3.later hb, (hb.block _ (lt_of_heap h.h7)).trans h.h7, (hb.cell (p := ⟨b, o + 1, none⟩) h.lt).trans h.c7, Nat.lt_of_lt_of_le h.lt hb.size⟩

theorem bg_cells {w W : World} {b3 b7 : Nat} {x1 x2 x3 x4 z1 z2 z3 : Option Addr} {y1 y2 y3 y4 d1 d2 d3 b o d4 : Nat} (h : Bg w W b3 b7 x1 y1 x2 y2 x3 y3 x4 y4 z1 d1 z2 d2 z3 d3 b o d4) : W.cell? ⟨b3, 0, none⟩ = some (.string ⟨#[99, 110, 116]⟩) ∧ W.cell? ⟨b3, 1, none⟩ = some (.slice x1 0 y1) ∧ W.cell? ⟨b3, 2, none⟩ = some (.slice x2 3 y2) ∧ W.cell? ⟨b3, 3, none⟩ = some (.slice x3 1 y3) ∧ W.cell? ⟨b3, 4, none⟩ = some (.slice x4 0 y4) ∧ W.cell? ⟨b7, 4, none⟩ = some (.slice (some ⟨b, o, none⟩) 3 d4) ∧ W.cell? ⟨b, o + 1, none⟩ = some (.string ⟨#[99, 110, 116]⟩) :=
  have h3 := cellsOf5 h.h3
  have h7 := cellsOf5 h.h7
  ⟨h3.1, h3.2.1, h3.2.2.1, h3.2.2.2.1, h3.2.2.2.2.1, h7.2.2.2.2.1, h.c7⟩
set_option maxHeartbeats 3200000 in
theorem treeBegun_any (w : World) (htab : Tab w) :
    Calls Tryz.prog 6 #[] w fun e w' => e = .returned (.bool true) ∧ Below w.heap.size w w' := by
  have HTab := hid htab
  clear htab
  go_enter Tryz.func6, Tryz.ntmps6
  go_wp2_with fail
  refine (counter_any _).mono ?_
  rintro e w1 ⟨v, a1, c1, a2, c2, a3, c3, a4, c4, rfl, hM, hb1⟩
  have HM := hid hM
  have HB1 := hid hb1
  clear hM hb1
  go_wp2_with fail
  refine (tShow_any cntMo v a1 c1 a2 c2 a3 c3 a4 c4 w1 (HTab.out.later HB1.out) HM.out).mono ?_
  rw [cnt_shoE, cnt_shoS]
  rintro e w2 ⟨rfl, hb2⟩
  have HB2 := hid (thenB HB1.out hb2)
  clear hb2 HM HB1 HTab
  go_wp2_with fail
  refine (Parse_any cntS w2 (by decide)).mono ?_
  rintro e w3 ⟨hp, hb3⟩
  have HB3 := hid (thenB HB2.out hb3)
  clear hb3 HB2
  rcases hp with ⟨h, _⟩ | ⟨m, u, x1, y1, x2, y2, x3, y3, x4, y4, hm, _, rfl, hM⟩
  · rw [cnt_pars] at h; cases h
  rw [cnt_pars] at hm
  cases hm
  obtain rfl : u = .agg #[.string ⟨#[99, 110, 116]⟩, .slice x1 0 y1, .slice x2 3 y2, .slice x3 1 y3, .slice x4 0 y4] := hM.val
  have HM := hid hM
  clear hM
  go_wp2_with fail
  obtain ⟨W3, hW3⟩ : ∃ W3, W3 = w3.alloc (.cells #[.string ⟨#[99, 110, 116]⟩, .slice x1 0 y1, .slice x2 3 y2, .slice x3 1 y3, .slice x4 0 y4] 27) := ⟨_, rfl⟩
  have hB3 : Below w3.heap.size w3 W3 := by rw [hW3]; exact al1 _ _
  have HX3 : Hid (W3.heap[w3.heap.size]? = some (.cells #[.string ⟨#[99, 110, 116]⟩, .slice x1 0 y1, .slice x2 3 y2, .slice x3 1 y3, .slice x4 0 y4] 27 (0, 0))) := by rw [hW3]; exact heap_newP _ _
  have HBW3 := hid (thenB HB3.out hB3)
  have HM3 := hid (HM.out.later hB3)
  rw [← hW3]
  clear hW3 hB3 HM HB3
  refine (Parse_any badS W3 (by decide)).mono ?_
  rintro e w4 ⟨hp, hb4⟩
  have HBW4 := hid (thenB HBW3.out hb4)
  have HX4 := hid ((hb4.block _ (lt_of_heap HX3.out)).trans HX3.out)
  have HM4 := hid (HM3.out.later hb4)
  clear hb4 HBW3 HX3 HM3
  rcases hp with ⟨_, _, rfl⟩ | ⟨m, _, _, _, _, _, _, _, _, _, hm, _⟩
  rotate_left
  · rw [bad_pars.1] at hm; cases hm
  rw [bad_pars.2]
  go_wp2_with fail
  refine (topText_any _).mono ?_
  rintro e w5 ⟨rfl, h5⟩
  have hB5 : Below w4.heap.size w4 w5 := by rw [h5]; exact al1 _ _
  have HBW5 := hid (thenB HBW4.out hB5)
  have HX5 := hid ((hB5.block _ (lt_of_heap HX4.out)).trans HX4.out)
  have HM5 := hid (HM4.out.later hB5)
  clear h5 hB5 HBW4 HX4 HM4
  go_wp2_with fail
  refine (Parse_any topS w5 (by decide)).mono ?_
  rintro e w6 ⟨hp, hb6⟩
  have HBW6 := hid (thenB HBW5.out hb6)
  have HX6 := hid ((hb6.block _ (lt_of_heap HX5.out)).trans HX5.out)
  have HM6 := hid (HM5.out.later hb6)
  clear hb6 HBW5 HX5 HM5
  rcases hp with ⟨h, _⟩ | ⟨m, u, z1, d1, z2, d2, z3, d3, z4, d4, hm, _, rfl, hM⟩
  · rw [top_pars] at h; cases h
  rw [top_pars] at hm
  cases hm
  obtain rfl : u = .agg #[.string ⟨#[116, 111, 112]⟩, .slice z1 1 d1, .slice z2 0 d2, .slice z3 0 d3, .slice z4 3 d4] := hM.val
  obtain ⟨b, o, _, _, _, _, _, _, hz4, hS⟩ := hM.main.st 0 (by decide)
  obtain rfl : z4 = some ⟨b, o, none⟩ := hz4
  have HC : Hid (w6.cell? ⟨b, o + 1, none⟩ = some (.string ⟨#[99, 110, 116]⟩)) := hS.c1
  have HL : Hid (b < w6.heap.size) := hS.lt
  clear hM hS
  go_wp2_with fail
  obtain ⟨W6, hW6⟩ : ∃ W6, W6 = w6.alloc (.cells #[.string ⟨#[116, 111, 112]⟩, .slice z1 1 d1, .slice z2 0 d2, .slice z3 0 d3, .slice (some ⟨b, o, none⟩) 3 d4] 27) := ⟨_, rfl⟩
  have hB6 : Below w6.heap.size w6 W6 := by rw [hW6]; exact al1 _ _
  have HY : Hid (Bg w W6 w3.heap.size w6.heap.size x1 y1 x2 y2 x3 y3 x4 y4 z1 d1 z2 d2 z3 d3 b o d4) :=
    ⟨thenB HBW6.out hB6, (hB6.block _ (lt_of_heap HX6.out)).trans HX6.out, HM6.out.later hB6, by rw [hW6]; exact heap_newP _ _, (hB6.cell (p := ⟨b, o + 1, none⟩) HL.out).trans HC.out, Nat.lt_of_lt_of_le HL.out hB6.size⟩
  rw [← hW6]
  clear hW6 hB6 HBW6 HX6 HM6 HC HL
  have HCT : Hid (∀ W : World, Calls Tryz.prog 17 #[] W fun e w' => e = .returned (.string cntS) ∧ w' = W) := countText_any
  have HCK : Hid (∀ (v : Value) (a1 : Option Addr) (c1 : Nat) (a2 : Option Addr) (c2 : Nat) (a3 : Option Addr) (c3 : Nat) (a4 : Option Addr) (c4 : Nat) (W : World), MoAt W Tt cntMo v a1 c1 a2 c2 a3 c3 a4 c4 → Calls Tryz.prog 7 #[v] W fun e w' => e = .returned (.int .i64 0) ∧ Below W.heap.size W w') := fun v a1 c1 a2 c2 a3 c3 a4 c4 W h => by
    have := tCheck_any cntMo v a1 c1 a2 c2 a3 c3 a4 c4 W h
    rw [cnt_err] at this
    exact this
  generalize cntS = cs at *
  have HY5 := hid (HY.out.later (Below.refl _ _).drew)
  clear HY
  have FF := hid (bg_cells HY5.out)
  go_region_held (fun W => W.cell? ⟨w3.heap.size, 0, none⟩ = some (.string ⟨#[99, 110, 116]⟩) ∧ W.cell? ⟨w3.heap.size, 1, none⟩ = some (.slice x1 0 y1) ∧ W.cell? ⟨w3.heap.size, 2, none⟩ = some (.slice x2 3 y2) ∧ W.cell? ⟨w3.heap.size, 3, none⟩ = some (.slice x3 1 y3) ∧ W.cell? ⟨w3.heap.size, 4, none⟩ = some (.slice x4 0 y4) ∧ W.cell? ⟨w6.heap.size, 4, none⟩ = some (.slice (some ⟨b, o, none⟩) 3 d4) ∧ W.cell? ⟨b, o + 1, none⟩ = some (.string ⟨#[99, 110, 116]⟩)) (exact FF.out)
    (first
    | (go_at_call 15; have HYt := hid HY8.out; refine (counter_any _).mono ?_; rintro e w9 ⟨v9, e1, f1, e2, f2, e3, f3, e4, f4, rfl, hM9, hb9⟩; have HN9 := hid hM9; have HY9 := hid (HYt.out.later hb9); clear hM9 hb9; have FF := hid (bg_cells HY9.out))
    | (go_at_call 11; refine (sameModules_any cntMo _ v9 x1 y1 x2 y2 x3 y3 x4 y4 e1 f1 e2 f2 e3 f3 e4 f4 _ HY9.out.m3 HN9.out).mono ?_; rintro e w10 ⟨rfl, hb10⟩; have HY10 := hid (HY9.out.later hb10); clear hb10; have FF := hid (bg_cells HY10.out))
    | (go_at_call 15; refine (counter_any _).mono ?_; rintro e w6a ⟨v6, e1, f1, e2, f2, e3, f3, e4, f4, rfl, hM6, hb6⟩; have HN6 := hid hM6; have HY6 := hid (HY5.out.later hb6); clear hM6 hb6; have FF := hid (bg_cells HY6.out))
    | (go_at_call 7; refine (HCK.out _ _ _ _ _ _ _ _ _ _ HN6.out).mono ?_; rintro e w7 ⟨rfl, hb7⟩; have HY7 := hid (HY6.out.later hb7); clear hb7; have FF := hid (bg_cells HY7.out))
    | (go_at_call 17; refine (HCT.out _).mono ?_; rintro e w8 ⟨rfl, hw8⟩; obtain rfl := hw8.symm; have HY8 := hid HY7.out; have FF := hid (bg_cells HY8.out)))
  all_goals
    go_wp2_with fail
    go_ret
    exact ⟨rfl, HY10.out.below⟩
end Go.Proofs.YtcekpobmbmnplaaGreatDoor
