/-
  The machine's run: step by step, until something ends it; that is thrown, and the deferred call recovers it.
-/
import Derived.Test.YtpahhhhfhnpmjaaStp
import Derived.Test.YtpahhhhfhnpmjaaPurb
import Derived.Defers
import Derived.Recover
namespace Go.Proofs.Ytpahhhhfhnpmjaa
open Go.RowKit Go.Shelf
set_option maxRecDepth 100000

theorem catch_any (x : Int) (w : World) :
    CallsD Try.prog 40 #[] (.panicking (thrown x)) w fun e u' w' => e = .returned (.tuple #[]) ∧ u' = .panicking [{ v := .iface 3 (.int .i64 x), recovered := true }] ∧ w' = w := by
  refine callsD_of_wpS Try.func40 rfl fun c₀ cs hu => ?_
  apply wpS_region
  unfold thrown at hu
  simp [wpOpsS, go_sem, recoverD, hu, Try.ntmps40, bodyPostS, results, Try.results40]

/- how many steps are left, as memory tells -/
def leftOf (ms : Int) (R : Nat) (w : World) : Nat := (ms - (match w.cell? ⟨R, 11, none⟩ with | some (.int _ n) => n | _ => 0)).toNat
theorem leftOf_eq {B R : Nat} {c : Mc.Cfg} {w0 w : World} {s : Mc.St} (h : Mch B R c w0 w s) : leftOf c.ms R w = (c.ms - s.steps).toNat ∧ s.steps ≤ c.ms := by
  obtain ⟨T, v, h⟩ := h
  unfold leftOf
  rw [h.cell.2.2.2.2.2.2.2.2.2.2.2.1]
  exact ⟨rfl, h.sp.2⟩

set_option maxHeartbeats 800000 in
theorem run_any (B R : Nat) (c : Mc.Cfg) (w0 : World) (s : Mc.St) (w : World) (h : Mch B R c w0 w s) (F : Nat) (hF : (c.ms - s.steps).toNat < F) :
    Calls Try.prog 28 #[.pointer (some ⟨R, 0, none⟩)] w fun e w' => e = .returned (.tuple #[]) ∧ Mch B R c w0 w' (Mc.run c F s) := by
  have HM := hid h
  have HL : Hid (∀ (w1 : World) (s1 : Mc.St), Mch B R c w0 w1 s1 → leftOf c.ms R w1 = (c.ms - s1.steps).toNat ∧ s1.steps ≤ c.ms) := fun w1 s1 h => leftOf_eq h
  have hs := (leftOf_eq h).2
  have HF := hid hF
  have HS := hid hs
  clear h hF hs
  go_enter_defers Try.func28, Try.ntmps28
  go_wp2_with fail
  go_loopw [] (fun wr => ∃ (s1 : Mc.St) (f : Nat), Mch B R c w0 wr s1 ∧ (c.ms - s1.steps).toNat < f ∧ Mc.run c f s1 = Mc.run c F s) (fun wr => leftOf c.ms R wr)
  case atStart => exact ⟨s, F, HM.out, HF.out, rfl⟩
  case round =>
    obtain ⟨s1, f, h1, h2, h3⟩ := hrel
    have H1 := hid h1
    have H2 := hid h2
    have H3 := hid h3
    clear h1 h2 h3
    go_wp2_with fail
    refine (step_any B R c w0 s1 _ H1.out).mono ?_
    intro e w1 he
    rcases he.parts with ⟨u, s2, HR, rfl, Hm⟩ | ⟨s2, HR, rfl, Hm⟩ <;> clear he <;> simp only [unitV]
    · go_wp2_with fail
      go_roundw
      case rel =>
        obtain ⟨h1, _, h3, _⟩ := Mc.step_ok HR.out
        have h2 := H2.out
        have h4 := (HL.out _ _ H1.out).2
        cases f with
        | zero => omega
        | succ f =>
          refine ⟨s2, f, Hm.out, by omega, ?_⟩
          rw [← H3.out, Mc.run_succ, HR.out]
      case measure =>
        obtain ⟨h1, _, h3, _⟩ := Mc.step_ok HR.out
        have h4 := HL.out _ _ H1.out
        have h5 := HL.out _ _ Hm.out
        show leftOf c.ms R w1 < leftOf c.ms R wr
        rw [h4.1, h5.1]
        omega
    · go_wp2_with fail
      have HE : Hid (Mc.run c F s = s2) := by
        show Mc.run c F s = s2
        have h2 := H2.out
        cases f with
        | zero => omega
        | succ f => rw [← H3.out, Mc.run_succ, HR.out]
      refine leaves_cons (f := 40) (args := #[]) (by simp) (by simp [go_sem]) ?_
      refine (catch_any s2.en w1).mono ?_
      rintro e u' w'' ⟨rfl, rfl, rfl⟩
      refine ⟨.tuple #[], ?_, rfl, ?_⟩
      · simp [results, Try.results28]
      · rw [HE.out]; exact Hm.out

end Go.Proofs.Ytpahhhhfhnpmjaa
