/-
  What is the same is held the same: lists of texts, expressions, blocks.
-/
import Derived.Test.YtcekpobmbmnplaaGreatDoorSj
import Derived.Deep.QuietTactic
import Derived.BigQuiet
namespace Go.Proofs.YtcekpobmbmnplaaGreatDoor
open Go.RowKit Go.Shelf

theorem DAt.drewN {A : Nat → Prop} {w : World} {n : Nat} {a : Option Addr} {ds : List D} (h : DAt w A a n ds) (k : Nat) : DAt (w.drewN k) A a n ds := h.moves ⟨by simp, fun b _ hb => ⟨hb, by simp⟩⟩
set_option maxRecDepth 100000 in
set_option maxHeartbeats 1600000 in
theorem sameTexts (l : List ByteArray) (a b : Option Addr) (c d : Nat) (w : World) (ha : DAt w Tt a l.length (strsD l)) (hb : DAt w Tt b l.length (strsD l)) :
    Calls Tryz.prog 27 #[.slice a l.length c, .slice b l.length d] w fun e w' => e = .returned (.bool true) ∧ ∃ n, w' = w.drewN n := by
  have hbd := ha.bound
  have HA := hid ha
  have HB := hid hb
  clear ha hb
  go_enter Tryz.func27, Tryz.ntmps27
  go_wp2_with fail
  go_loopw [5] (fun i wr => ∃ k n : Nat, k ≤ l.length ∧ i = .int .i64 k ∧ wr = w.drewN n) (fun i _ => l.length - (intOf i).toNat)
  case atStart => exact ⟨0, 0, Nat.zero_le _, rfl, rfl⟩
  case round =>
    obtain ⟨k, n, hk, rfl, rfl⟩ := hrel
    by_cases hlt : k < l.length
    · obtain ⟨b1, o1, rfl, h1, c1, _⟩ := HA.out.str k hlt
      obtain ⟨b2, o2, rfl, h2, c2, _⟩ := HB.out.str k hlt
      go_wp2_with fail
      go_quiet ((fail))
      go_wp2_with fail
      go_roundw
      case rel => exact ⟨k + 1, _, by omega, by go_num, rfl⟩
      case measure => simp [intOf]; omega
    · go_wp2_with fail
      go_ret
      exact ⟨rfl, n, rfl⟩
theorem args_small (x : Ex) : SizeOf.sizeOf x.args < SizeOf.sizeOf x := by
  cases x
  simp [Ex.args]
  omega
set_option maxRecDepth 100000 in
set_option maxHeartbeats 3200000 in
theorem sameExprs (N : Nat) : ∀ (l : List Ex) (_ : SizeOf.sizeOf l < N) (a b : Option Addr) (c d : Nat) (w : World) (_ : DAt w Tt a l.length (exsD l)) (_ : DAt w Tt b l.length (exsD l)),
    Calls Tryz.prog 58 #[.slice a l.length c, .slice b l.length d] w fun e w' => e = .returned (.bool true) ∧ ∃ n, w' = w.drewN n := by
  induction N with
  | zero => intro l hl; omega
  | succ N ih =>
  intro l hl a b c d w ha hb
  have hbd := ha.bound
  have HA := hid ha
  have HB := hid hb
  have HI := hid ih
  clear ha hb ih
  go_enter Tryz.func58, Tryz.ntmps58
  go_wp2_with fail
  go_loopw [5] (fun i wr => ∃ k n : Nat, k ≤ l.length ∧ i = .int .i64 k ∧ wr = w.drewN n) (fun i _ => l.length - (intOf i).toNat)
  case atStart => exact ⟨0, 0, Nat.zero_le _, rfl, rfl⟩
  case round =>
    obtain ⟨k, n, hk, rfl, hwr⟩ := hrel
    have HWr := hid hwr
    have HA' : Hid (DAt wr Tt a l.length (exsD l)) := by rw [hwr]; exact HA.out.drewN n
    have HB' : Hid (DAt wr Tt b l.length (exsD l)) := by rw [hwr]; exact HB.out.drewN n
    clear hwr
    by_cases hlt : k < l.length
    · obtain ⟨b1, o1, p1, q1, rfl, h1⟩ := HA'.out.ex k hlt
      obtain ⟨b2, o2, p2, q2, rfl, h2⟩ := HB'.out.ex k hlt
      have x0 := h1.c0
      have x1 := h1.c1
      have x2 := h1.c2
      have x3 := h1.c3
      have x4 := h1.c4
      have y0 := h2.c0
      have y1 := h2.c1
      have y2 := h2.c2
      have y3 := h2.c3
      have y4 := h2.c4
      have z1 := h1.lt
      have z2 := h2.lt
      have HC : Hid (∀ j, Calls Tryz.prog 58 #[.slice p1 l[k].args.length q1, .slice p2 l[k].args.length q2] (wr.drewN j) fun e w' => e = .returned (.bool true) ∧ ∃ m, w' = (wr.drewN j).drewN m) := fun j => by
        exact HI.out l[k].args (by
          have e1 := args_small l[k]
          have e2 := List.sizeOf_lt_of_mem (List.getElem_mem hlt)
          omega) p1 p2 q1 q2 _ (h1.args.drewN j) (h2.args.drewN j)
      clear h1 h2
      go_wp2_with fail
      go_quiet ((go_at_call 58; exact Calls.quiet_of (HC.out _)))
      go_wp2_with fail
      go_roundw
      case rel => exact ⟨k + 1, _, by omega, by go_num, by rw [HWr.out, World.drewN_drewN]⟩
      case measure => simp [intOf]; omega
    · go_wp2_with fail
      go_ret
      exact ⟨rfl, n, HWr.out⟩
theorem sameExprs_any (l : List Ex) (a b : Option Addr) (c d : Nat) (w : World) (ha : DAt w Tt a l.length (exsD l)) (hb : DAt w Tt b l.length (exsD l)) :
    Calls Tryz.prog 58 #[.slice a l.length c, .slice b l.length d] w fun e w' => e = .returned (.bool true) ∧ ∃ n, w' = w.drewN n := sameExprs (SizeOf.sizeOf l + 1) l (by omega) a b c d w ha hb
theorem body_small (x : St) : SizeOf.sizeOf x.body < SizeOf.sizeOf x ∧ SizeOf.sizeOf x.other < SizeOf.sizeOf x := by
  cases x
  simp [St.body, St.other]
  omega
def SmB (N : Nat) (w : World) (L : List St) (P Q : Option Addr) : Prop := SizeOf.sizeOf L < N ∧ DAt w Tt P L.length (stsD L) ∧ DAt w Tt Q L.length (stsD L)
set_option maxRecDepth 100000 in
set_option maxHeartbeats 3200000 in
theorem sameBlocks (N : Nat) : ∀ (l : List St) (_ : SizeOf.sizeOf l < N) (a b : Option Addr) (c d : Nat) (w : World) (_ : DAt w Tt a l.length (stsD l)) (_ : DAt w Tt b l.length (stsD l)),
    Calls Tryz.prog 28 #[.slice a l.length c, .slice b l.length d] w fun e w' => e = .returned (.bool true) ∧ ∃ n, w' = w.drewN n := by
  induction N with
  | zero => intro l hl; omega
  | succ N ih =>
  intro l hl a b c d w ha hb
  have hbd := ha.bound
  have HA := hid ha
  have HB := hid hb
  have HI := hid ih
  clear ha hb ih
  go_enter Tryz.func28, Tryz.ntmps28
  go_wp2_with fail
  go_loopw [5] (fun i wr => ∃ k n : Nat, k ≤ l.length ∧ i = .int .i64 k ∧ wr = w.drewN n) (fun i _ => l.length - (intOf i).toNat)
  case atStart => exact ⟨0, 0, Nat.zero_le _, rfl, rfl⟩
  case round =>
    obtain ⟨k, n, hk, rfl, hwr⟩ := hrel
    have HWr := hid hwr
    have HA' : Hid (DAt wr Tt a l.length (stsD l)) := by rw [hwr]; exact HA.out.drewN n
    have HB' : Hid (DAt wr Tt b l.length (stsD l)) := by rw [hwr]; exact HB.out.drewN n
    clear hwr
    by_cases hlt : k < l.length
    · obtain ⟨b1, o1, p1, q1, p3, q3, p5, q5, rfl, h1⟩ := HA'.out.st k hlt
      obtain ⟨b2, o2, p2, q2, p4, q4, p6, q6, rfl, h2⟩ := HB'.out.st k hlt
      have x0 := h1.c0
      have x1 := h1.c1
      have x2 := h1.c2
      have x3 := h1.c3
      have x4 := h1.c4
      have x5 := h1.c5
      have y0 := h2.c0
      have y1 := h2.c1
      have y2 := h2.c2
      have y3 := h2.c3
      have y4 := h2.c4
      have y5 := h2.c5
      have z1 := h1.lt
      have z2 := h2.lt
      have e2 := List.sizeOf_lt_of_mem (List.getElem_mem hlt)
      have e1 := body_small l[k]
      have HC1 : Hid (∀ j, Calls Tryz.prog 58 #[.slice p1 l[k].args.length q1, .slice p2 l[k].args.length q2] (wr.drewN j) fun e w' => e = .returned (.bool true) ∧ ∃ m, w' = (wr.drewN j).drewN m) := fun j => by
        exact sameExprs_any l[k].args p1 p2 q1 q2 _ (h1.args.drewN j) (h2.args.drewN j)
      have HC2 : Hid (∀ j (L : List St) (P Q : Option Addr) (c d : Nat), SmB N wr L P Q → Calls Tryz.prog 28 #[.slice P L.length c, .slice Q L.length d] (wr.drewN j) fun e w' => e = .returned (.bool true) ∧ ∃ m, w' = (wr.drewN j).drewN m) := fun j L P Q c d hs => HI.out L hs.1 P Q c d _ (hs.2.1.drewN j) (hs.2.2.drewN j)
      have HS2 : Hid (SmB N wr l[k].body p3 p4) := ⟨by omega, h1.body, h2.body⟩
      have HS3 : Hid (SmB N wr l[k].other p5 p6) := ⟨by omega, h1.other, h2.other⟩
      clear h1 h2 e1 e2
      go_wp2_with fail
      go_quiet ((first | (go_at_call 58; exact Calls.quiet_of (HC1.out _)) | (go_at_call 28; exact Calls.quiet_of (HC2.out _ _ _ _ _ _ (by first | exact HS2.out | exact HS3.out)))))
      go_wp2_with fail
      go_roundw
      case rel => exact ⟨k + 1, _, by omega, by go_num, by rw [HWr.out, World.drewN_drewN]⟩
      case measure => simp [intOf]; omega
    · go_wp2_with fail
      go_ret
      exact ⟨rfl, n, HWr.out⟩
theorem sameBlocks_any (l : List St) (a b : Option Addr) (c d : Nat) (w : World) (ha : DAt w Tt a l.length (stsD l)) (hb : DAt w Tt b l.length (stsD l)) :
    Calls Tryz.prog 28 #[.slice a l.length c, .slice b l.length d] w fun e w' => e = .returned (.bool true) ∧ ∃ n, w' = w.drewN n := sameBlocks (SizeOf.sizeOf l + 1) l (by omega) a b c d w ha hb
end Go.Proofs.YtcekpobmbmnplaaGreatDoor
