/-
  The document's CheckModule.
-/
import Derived.Test.YtcekpobmbmnplaaGreatDoorRe
import Derived.Test.YtcekpobmbmnplaaGreatDoorRga
import Derived.Test.YtcekpobmbmnplaaGreatDoorRgb
import Derived.Test.YtcekpobmbmnplaaGreatDoorRgc
import Derived.Test.YtcekpobmbmnplaaGreatDoorVe
namespace Go.Proofs.YtcekpobmbmnplaaGreatDoor
open Go.RowKit Go.Maps
set_option maxRecDepth 100000 in
set_option maxHeartbeats 1600000 in
theorem CheckModule_any (m : Mo) (v : Value) (a1 : Option Addr) (c1 : Nat) (a2 : Option Addr) (c2 : Nat) (a3 : Option Addr) (c3 : Nat) (a4 : Option Addr) (c4 : Nat) (w : World) (hM : MoAt w Tt m v a1 c1 a2 c2 a3 c3 a4 c4) (hs : Small m) :
    Calls Tryz.prog 8 #[v] w fun e w' => e = .returned (.int .i64 m.err) ∧ Below w.heap.size w w' := by
  have HS := hid hs
  obtain rfl := hM.val
  have HM := hid hM
  clear hM hs
  have HB : Hid (Blk (w.alloc (.cells #[.string m.name, .slice a1 m.uses.length c1, .slice a2 m.decls.length c2, .slice a3 m.procs.length c3, .slice a4 m.main.length c4] 27)) w.heap.size [.string m.name, .slice a1 m.uses.length c1, .slice a2 m.decls.length c2, .slice a3 m.procs.length c3, .slice a4 m.main.length c4]) := Blk.new w _ _
  have HE : Hid (m.err = if m.kinds then (if m.many then 2 else (if m.form then 0 else 1)) else 4) := rfl
  go_enter Tryz.func8, Tryz.ntmps8
  go_wp2_with fail
  refine (moduleLook1_any m _ a1 c1 a2 c2 a3 c3 a4 c4 _ (HM.out.later (al1 _ _)) HS.out).mono ?_
  rw [mL1_kinds]
  cases hk : m.kinds with
  | false =>
    rintro e w1 ⟨rfl, hb1⟩
    have HF : Hid (m.err = 4) := by show _ = _; rw [HE.out, hk]; rfl
    go_wp2_with fail
    go_ret
    exact ⟨ret_int HF.out.symm, thenB (al1 _ _) hb1⟩
  | true =>
    rintro e w1 ⟨rfl, hb1⟩
    have hb1' := thenB (al1 _ _) hb1
    have B1 := HB.out.later hb1
    clear HB hb1
    obtain ⟨y0, y1, y2, y3, y4, yz⟩ := B1.c5
    have HB := hid B1
    clear B1
    go_wp2_with fail
    refine (moduleLook2_any m _ a1 c1 a2 c2 a3 c3 a4 c4 _ (HM.out.later hb1') HS.out).mono ?_
    rw [mL2_many]
    cases hm : m.many with
    | true =>
      rintro e w2 ⟨rfl, hb2⟩
      have HF : Hid (m.err = 2) := by show _ = _; rw [HE.out, hk, hm]; rfl
      go_wp2_with fail
      go_ret
      exact ⟨ret_int HF.out.symm, thenB hb1' hb2⟩
    | false =>
      rintro e w2 ⟨rfl, hb2⟩
      have hb2' := thenB hb1' hb2
      have B1 := HB.out.later hb2
      clear HB hb2 hb1' y0 y1 y2 y3 y4 yz
      obtain ⟨y0, y1, y2, y3, y4, yz⟩ := B1.c5
      clear B1
      go_wp2_with fail
      refine (moduleLook3_any m _ a1 c1 a2 c2 a3 c3 a4 c4 _ (HM.out.later hb2') HS.out).mono ?_
      rw [mL3_form m hk hm]
      cases hf : m.form with
      | true =>
        rintro e w3 ⟨rfl, hb3⟩
        have HF : Hid (m.err = 0) := by show _ = _; rw [HE.out, hk, hm, hf]; rfl
        go_wp2_with fail
        go_ret
        exact ⟨ret_int HF.out.symm, thenB hb2' hb3⟩
      | false =>
        rintro e w3 ⟨rfl, hb3⟩
        have HF : Hid (m.err = 1) := by show _ = _; rw [HE.out, hk, hm, hf]; rfl
        go_wp2_with fail
        go_ret
        exact ⟨ret_int HF.out.symm, thenB hb2' hb3⟩
end Go.Proofs.YtcekpobmbmnplaaGreatDoor

namespace Go.Proofs.YtcekpobmbmnplaaGreatDoor
open Go.RowKit
set_option maxRecDepth 100000
structure Cg (w W : World) (m : Mo) (b : Nat) (a1 : Option Addr) (c1 : Nat) (a2 : Option Addr) (c2 : Nat) (a3 : Option Addr) (c3 : Nat) (a4 : Option Addr) (c4 : Nat) : Prop where
  below : Below w.heap.size w W
  h : W.heap[b]? = some (.cells #[.string m.name, .slice a1 m.uses.length c1, .slice a2 m.decls.length c2, .slice a3 m.procs.length c3, .slice a4 m.main.length c4] 27 (0, 0))
  at' : MoAt W Tt m (.agg #[.string m.name, .slice a1 m.uses.length c1, .slice a2 m.decls.length c2, .slice a3 m.procs.length c3, .slice a4 m.main.length c4]) a1 c1 a2 c2 a3 c3 a4 c4
theorem Cg.later {w W W' : World} {m : Mo} {b : Nat} {a1 a2 a3 a4 : Option Addr} {c1 c2 c3 c4 : Nat} (h : Cg w W m b a1 c1 a2 c2 a3 c3 a4 c4) (hb : Below W.heap.size W W') : Cg w W' m b a1 c1 a2 c2 a3 c3 a4 c4 :=
  ⟨h.below.trans (hb.mono h.below.size), (hb.block _ (lt_of_heap h.h)).trans h.h, h.at'.later hb⟩
theorem cg_cells {w W : World} {m : Mo} {b : Nat} {a1 a2 a3 a4 : Option Addr} {c1 c2 c3 c4 : Nat} (h : Cg w W m b a1 c1 a2 c2 a3 c3 a4 c4) : W.cell? ⟨b, 0, none⟩ = some (.string m.name) ∧ W.cell? ⟨b, 1, none⟩ = some (.slice a1 m.uses.length c1) ∧ W.cell? ⟨b, 2, none⟩ = some (.slice a2 m.decls.length c2) ∧ W.cell? ⟨b, 3, none⟩ = some (.slice a3 m.procs.length c3) ∧ W.cell? ⟨b, 4, none⟩ = some (.slice a4 m.main.length c4) :=
  have h3 := cellsOf5 h.h
  ⟨h3.1, h3.2.1, h3.2.2.1, h3.2.2.2.1, h3.2.2.2.2.1⟩
set_option maxHeartbeats 1600000 in
theorem TreeChecks_any (m : Mo) (v : Value) (a1 : Option Addr) (c1 : Nat) (a2 : Option Addr) (c2 : Nat) (a3 : Option Addr) (c3 : Nat) (a4 : Option Addr) (c4 : Nat) (w : World) (htab : Tab w) (hM : MoAt w Tt m v a1 c1 a2 c2 a3 c3 a4 c4) (hs : Small m) :
    Calls Tryz.prog 3 #[v] w fun e w' => e = .returned (.bool true) ∧ Below w.heap.size w w' := by
  obtain rfl := hM.val
  have HS := hid hs
  have HTab := hid htab
  obtain ⟨W0, hW0⟩ : ∃ W0, W0 = w.alloc (.cells #[.string m.name, .slice a1 m.uses.length c1, .slice a2 m.decls.length c2, .slice a3 m.procs.length c3, .slice a4 m.main.length c4] 27) := ⟨_, rfl⟩
  have hB0 : Below w.heap.size w W0 := by rw [hW0]; exact al1 _ _
  have HY : Hid (Cg w W0 m w.heap.size a1 c1 a2 c2 a3 c3 a4 c4) := ⟨hB0, by rw [hW0]; exact heap_newP _ _, hM.later hB0⟩
  clear hM htab hs hB0
  go_enter Tryz.func3, Tryz.ntmps3
  go_upto_region 1 with fail
  rw [← hW0]
  clear hW0
  have HY5 := hid (HY.out.later (Below.refl _ _).drew)
  have HTb := hid (HTab.out.later HY5.out.below)
  clear HY HTab
  have FF := hid (cg_cells HY5.out)
  have HCK : Hid (∀ W : World, MoAt W Tt m (.agg #[.string m.name, .slice a1 m.uses.length c1, .slice a2 m.decls.length c2, .slice a3 m.procs.length c3, .slice a4 m.main.length c4]) a1 c1 a2 c2 a3 c3 a4 c4 → Calls Tryz.prog 7 #[.agg #[.string m.name, .slice a1 m.uses.length c1, .slice a2 m.decls.length c2, .slice a3 m.procs.length c3, .slice a4 m.main.length c4]] W fun e w' => e = .returned (.int .i64 m.err) ∧ Below W.heap.size W w') := fun W h => tCheck_any m _ a1 c1 a2 c2 a3 c3 a4 c4 W h
  have HCM : Hid (∀ W : World, MoAt W Tt m (.agg #[.string m.name, .slice a1 m.uses.length c1, .slice a2 m.decls.length c2, .slice a3 m.procs.length c3, .slice a4 m.main.length c4]) a1 c1 a2 c2 a3 c3 a4 c4 → Calls Tryz.prog 8 #[.agg #[.string m.name, .slice a1 m.uses.length c1, .slice a2 m.decls.length c2, .slice a3 m.procs.length c3, .slice a4 m.main.length c4]] W fun e w' => e = .returned (.int .i64 m.err) ∧ Below W.heap.size W w') := fun W h => CheckModule_any m _ a1 c1 a2 c2 a3 c3 a4 c4 W h HS.out
  clear HS
  generalize m.err = me at *
  go_region_held (fun W => W.cell? ⟨w.heap.size, 0, none⟩ = some (.string m.name) ∧ W.cell? ⟨w.heap.size, 1, none⟩ = some (.slice a1 m.uses.length c1) ∧ W.cell? ⟨w.heap.size, 2, none⟩ = some (.slice a2 m.decls.length c2) ∧ W.cell? ⟨w.heap.size, 3, none⟩ = some (.slice a3 m.procs.length c3) ∧ W.cell? ⟨w.heap.size, 4, none⟩ = some (.slice a4 m.main.length c4)) (exact FF.out)
    (first
    | (go_at_call 6; refine (treeBegun_any _ HTb.out).mono ?_; rintro e w6 ⟨rfl, hb6⟩; have HY6 := hid (HY5.out.later hb6); clear hb6; have FF := hid (cg_cells HY6.out))
    | (go_at_call 7; refine (HCK.out _ HY6.out.at').mono ?_; rintro e w7 ⟨rfl, hb7⟩; have HY7 := hid (HY6.out.later hb7); clear hb7; have FF := hid (cg_cells HY7.out))
    | (go_at_call 8; refine (HCM.out _ HY7.out.at').mono ?_; rintro e w8 ⟨rfl, hb8⟩; have HY8 := hid (HY7.out.later hb8); clear hb8; have FF := hid (cg_cells HY8.out)))
  all_goals
    go_wp2_with fail
    go_ret
    exact ⟨rfl, HY8.out.below⟩
end Go.Proofs.YtcekpobmbmnplaaGreatDoor
