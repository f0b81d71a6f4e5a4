/-
  The document's look at statements and blocks.
-/
import Derived.Test.YtplkbngnnaogkaaRda
import Derived.Test.YtplkbngnnaogkaaRdb
import Derived.Test.YtplkbngnnaogkaaRdc
import Derived.Test.YtplkbngnnaogkaaRdd
import Derived.Test.YtplkbngnnaogkaaRde
import Derived.Test.YtplkbngnnaogkaaRdf
import Derived.Test.YtplkbngnnaogkaaRdg
namespace Go.Proofs.Ytplkbngnnaogkaa
open Go.RowKit Go.Maps

def BHolds (A : Nat → Prop) (lv : Int) (k : Nat) (deep : Int) : Prop := ∀ (l : List St) (a : Option Addr) (cap : Nat) (w : World), DAt w A a l.length (stsD l) → Calls Try.prog 66 #[.slice a l.length cap, .int .i64 lv, .int .i64 deep] w fun e w' => e = .returned (.bool (bL lv k l)) ∧ Below w.heap.size w w'
theorem stmtLook_of (A : Nat → Prop) (k : Nat) (lv : Int) (hlv : lv = 1 ∨ lv = 2 ∨ lv = 3) (s : St) (aa ab ac : Option Addr) (cap cab cac : Nat) (deep : Int) (w : World) (hd1 : 1 ≤ deep) (hd6 : deep ≤ 6) (HI : BHolds A lv k (deep + 1))
    (h1 : DAt w A aa s.args.length (exsD s.args)) (h2 : DAt w A ab s.body.length (stsD s.body)) (h3 : DAt w A ac s.other.length (stsD s.other)) (wm : s.mod.size ≤ maxLen) (wn : s.name.size ≤ maxLen) :
    Calls Try.prog 84 #[.agg #[.int .i64 s.op, .string s.mod, .string s.name, .slice aa s.args.length cap, .slice ab s.body.length cab, .slice ac s.other.length cac], .int .i64 lv, .int .i64 deep] w fun e w' => e = .returned (.bool (sL lv k s)) ∧ Below w.heap.size w w' := by
  obtain ⟨op, mod, name, l, bd, ot⟩ := s
  simp only [St.op, St.mod, St.name, St.args, St.body, St.other] at h1 h2 h3 wm wn ⊢
  rcases hlv with rfl | rfl | rfl
  · exact stmtStep1 A k op mod name l bd ot aa ab ac cap cab cac deep w h1.bound hd1 hd6 HI h1 h2 h3 wm wn
  · exact stmtStep2 A k op mod name l bd ot aa ab ac cap cab cac deep w h1.bound hd1 hd6 HI h1 h2 h3 wm wn
  · cases hR : inB op 1 3 with
    | false =>
      cases hm : mod.toList.isEmpty with
      | false => exact stmtStep3a A k op mod name l bd ot aa ab ac cap cab cac deep w h1.bound hd1 hd6 HI h1 h2 h3 wm wn hR (Or.inl hm)
      | true =>
        cases hn : name.toList.isEmpty with
        | false => exact stmtStep3a A k op mod name l bd ot aa ab ac cap cab cac deep w h1.bound hd1 hd6 HI h1 h2 h3 wm wn hR (Or.inr ⟨hm, hn⟩)
        | true => exact stmtStep3b A k op mod name l bd ot aa ab ac cap cab cac deep w h1.bound hd1 hd6 HI h1 h2 h3 wm wn hR hm hn
    | true =>
      cases hf : fineB mod name with
      | false => exact stmtStep3c A k op mod name l bd ot aa ab ac cap cab cac deep w h1.bound hd1 hd6 HI h1 h2 h3 wm wn hR hf
      | true =>
        cases h0 : decide (0 ≤ stN op) with
        | false => exact stmtStep3d A k op mod name l bd ot aa ab ac cap cab cac deep w h1.bound hd1 hd6 HI h1 h2 h3 wm wn hR hf h0
        | true => exact stmtStep3e A k op mod name l bd ot aa ab ac cap cab cac deep w h1.bound hd1 hd6 HI h1 h2 h3 wm wn hR hf h0
set_option maxRecDepth 100000 in
set_option maxHeartbeats 800000 in
theorem blockLook_any (A : Nat → Prop) (lv : Int) (hlv : lv = 1 ∨ lv = 2 ∨ lv = 3) : ∀ (k : Nat), k ≤ 6 → ∀ (deep : Int), deep = 7 - (k : Int) → BHolds A lv k deep
  | 0, _, deep, hd => by
    intro l a cap w hD
    subst hd
    have HR : Hid (bL lv 0 l = (lv == 2)) := by show _ = _; simp [bL]
    clear hD
    go_enter Try.func66, Try.ntmps66
    go_wp2_with fail
    go_ret
    exact ⟨ret_bool HR.out.symm, Below.refl _ _⟩
  | k + 1, hk, deep, hd => by
    intro l a cap w hD
    have hbd := hD.bound
    have hd1 : 1 ≤ deep := by omega
    have hd6 : deep ≤ 6 := by omega
    have HI : Hid (BHolds A lv k (deep + 1)) := blockLook_any A lv hlv k (by omega) (deep + 1) (by omega)
    have HD : Hid (DAt w A a l.length (stsD l)) := hD
    have HR : Hid (∀ {b : Bool}, ((lv == 2 && decide (10 < l.length)) || l.any (sL lv k)) = b → b = bL lv (k + 1) l) := fun h => by rw [← h, bL_succ]
    have HL := hid hlv
    clear hD hd hlv
    cases h2 : (lv == 2) with
    | true =>
      by_cases h10 : 10 < l.length
      · go_enter Try.func66, Try.ntmps66
        go_wp2_with fail
        go_ret
        exact ⟨ret_bool (HR.out (by simp [h2, h10])), Below.refl _ _⟩
      · have HQ : Hid ((lv == 2 && decide (10 < l.length)) = false) := by show _ = _; simp [h10]
        go_enter Try.func66, Try.ntmps66
        go_wp2_with fail
        go_loopw [7] (fun i wr => ∃ j : Nat, j ≤ l.length ∧ i = .int .i64 j ∧ (l.take j).any (sL lv k) = false ∧ Below w.heap.size w wr) (fun i _ => l.length - (intOf i).toNat)
        case atStart => exact ⟨0, Nat.zero_le _, rfl, rfl, Below.refl _ _⟩
        case round =>
          obtain ⟨j, hj, rfl, hall, hb⟩ := hrel
          have HA : Hid ((l.take j).any (sL lv k) = false) := hall
          clear hall
          by_cases hlt : j < l.length
          · obtain ⟨b, off, a1, c1, a2, c2, a3, c3, rfl, hx⟩ := (HD.out.later hb).st j hlt
            have hc0 := hx.c0
            have hc1 := hx.c1
            have hc2 := hx.c2
            have hc3 := hx.c3
            have hc4 := hx.c4
            have hc5 := hx.c5
            have hlb := hx.lt
            have HX : Hid (StAt wr A b (off + j * 6) l[j] a1 c1 a2 c2 a3 c3) := hx
            clear hx
            go_wp2_with fail
            refine (stmtLook_of A k lv HL.out l[j] a1 a2 a3 c1 c2 c3 deep _ hd1 hd6 HI.out HX.out.args HX.out.body HX.out.other HX.out.wm HX.out.wna).mono ?_
            cases hr : sL lv k l[j] with
            | true =>
              have HF : Hid (l.any (sL lv k) = true) := any_at l _ j hlt hr
              rintro e w3 ⟨rfl, hb3⟩
              go_wp2_with fail
              go_ret
              exact ⟨ret_bool (HR.out (by rw [HF.out]; simp)), thenB hb hb3⟩
            | false =>
              have HT : Hid ((l.take (j + 1)).any (sL lv k) = false) := by
                show _ = _
                rw [any_snoc l _ j hlt, HA.out, hr]; rfl
              rintro e w3 ⟨rfl, hb3⟩
              go_wp2_with fail
              go_roundw
              case rel => exact ⟨j + 1, by omega, by go_num, HT.out, thenB hb hb3⟩
              case measure => simp [intOf]; omega
          · have HT : Hid (l.any (sL lv k) = false) := any_end HA.out hlt
            go_wp2_with fail
            go_ret
            exact ⟨ret_bool (HR.out (by rw [HT.out, HQ.out]; rfl)), hb⟩
    | false =>
      have HQ : Hid ((lv == 2 && decide (10 < l.length)) = false) := by show _ = _; simp [h2]
      go_enter Try.func66, Try.ntmps66
      go_wp2_with fail
      go_loopw [7] (fun i wr => ∃ j : Nat, j ≤ l.length ∧ i = .int .i64 j ∧ (l.take j).any (sL lv k) = false ∧ Below w.heap.size w wr) (fun i _ => l.length - (intOf i).toNat)
      case atStart => exact ⟨0, Nat.zero_le _, rfl, rfl, Below.refl _ _⟩
      case round =>
        obtain ⟨j, hj, rfl, hall, hb⟩ := hrel
        have HA : Hid ((l.take j).any (sL lv k) = false) := hall
        clear hall
        by_cases hlt : j < l.length
        · obtain ⟨b, off, a1, c1, a2, c2, a3, c3, rfl, hx⟩ := (HD.out.later hb).st j hlt
          have hc0 := hx.c0
          have hc1 := hx.c1
          have hc2 := hx.c2
          have hc3 := hx.c3
          have hc4 := hx.c4
          have hc5 := hx.c5
          have hlb := hx.lt
          have HX : Hid (StAt wr A b (off + j * 6) l[j] a1 c1 a2 c2 a3 c3) := hx
          clear hx
          go_wp2_with fail
          refine (stmtLook_of A k lv HL.out l[j] a1 a2 a3 c1 c2 c3 deep _ hd1 hd6 HI.out HX.out.args HX.out.body HX.out.other HX.out.wm HX.out.wna).mono ?_
          cases hr : sL lv k l[j] with
          | true =>
            have HF : Hid (l.any (sL lv k) = true) := any_at l _ j hlt hr
            rintro e w3 ⟨rfl, hb3⟩
            go_wp2_with fail
            go_ret
            exact ⟨ret_bool (HR.out (by rw [HF.out]; simp)), thenB hb hb3⟩
          | false =>
            have HT : Hid ((l.take (j + 1)).any (sL lv k) = false) := by
              show _ = _
              rw [any_snoc l _ j hlt, HA.out, hr]; rfl
            rintro e w3 ⟨rfl, hb3⟩
            go_wp2_with fail
            go_roundw
            case rel => exact ⟨j + 1, by omega, by go_num, HT.out, thenB hb hb3⟩
            case measure => simp [intOf]; omega
        · have HT : Hid (l.any (sL lv k) = false) := any_end HA.out hlt
          go_wp2_with fail
          go_ret
          exact ⟨ret_bool (HR.out (by rw [HT.out, HQ.out]; rfl)), hb⟩
end Go.Proofs.Ytplkbngnnaogkaa
