/-
  MachRuns as a contract: where there is no error.
-/
import Derived.Test.YtljdoholcdhkhaaHj
import Derived.Deep.RegionHeld
namespace Go.Proofs.Ytljdoholcdhkhaa
open Go.RowKit Go.Shelf
set_option maxRecDepth 100000

theorem ans_run {code : List Mc.Ins} {d : Nat} {inp : List Int} {ticks N : Int} (h0 : errR code d inp.length ticks N = 0) :
    (Rg.run ⟨code, ticks, N⟩ (N.toNat + 1) (startS d inp)).s.en = (ansR code d inp ticks N).en ∧ (Rg.run ⟨code, ticks, N⟩ (N.toNat + 1) (startS d inp)).s.out = (ansR code d inp ticks N).out ∧ (Rg.run ⟨code, ticks, N⟩ (N.toNat + 1) (startS d inp)).s.data = (ansR code d inp ticks N).data ∧ (Rg.run ⟨code, ticks, N⟩ (N.toNat + 1) (startS d inp)).s.ticks = (ansR code d inp ticks N).ticks ∧ (Rg.run ⟨code, ticks, N⟩ (N.toNat + 1) (startS d inp)).s.steps = (ansR code d inp ticks N).steps ∧ (ansR code d inp ticks N).err = 0 := by
  obtain ⟨_, _, _, _, ht, _⟩ := errR_zero h0
  have := Rg.run_tells ⟨code, ticks, N⟩ (N.toNat + 1) (startS d inp) ht.1 (Nat.zero_le _)
  unfold ansR
  rw [if_pos h0, Int.toNat_natCast]
  exact ⟨this.1, this.2.1, this.2.2.1, this.2.2.2.1, this.2.2.2.2, rfl⟩

set_option maxHeartbeats 6400000 in
theorem MachRuns_ok (a ia : Option Addr) (cap icap : Nat) (code : List Mc.Ins) (d : Int) (inp : List Int) (ticks steps : Int) (w : World) (hT : ImgAt w a code) (hl : code.length ≤ 1000000000000000) (hfit : ∀ i ∈ code, InsFit i)
    (hI : NumsAt w ia inp) (hil : inp.length ≤ 1000000000000000) (hic : inp.length ≤ icap) (him : icap ≤ maxLen) (hst : steps ≤ 134217728) (h0 : errR code d inp.length ticks (if 16384 < steps then 16384 else steps) = 0) :
    Calls Try.prog 3 #[.agg #[.slice a code.length cap, .int .i64 d], .slice ia inp.length icap, .int .i64 ticks, .int .i64 steps] w fun e w' => e = .returned (.bool true) ∧ Below w.heap.size w w' := by
  have HF : Hid (∀ W, Calls Try.prog 5 #[.int .i64 steps] W fun en w' => en = .returned (.int .i64 (if 16384 < steps then 16384 else steps)) ∧ w' = W) := fun W => few_any steps W
  generalize (if 16384 < steps then 16384 else steps) = n at *
  obtain ⟨⟨hc1, hc2⟩, hops, ⟨hd0, hd1⟩, hin, ⟨ht0, ht1⟩, hs0, hs1⟩ := errR_zero h0
  have hre := ref_err code d inp.length ticks n
  rw [h0] at hre
  have hck : checkI code d = 0 := by
    rcases Decidable.em (checkI code d = 0) with h | h
    · exact h
    · rw [if_neg h] at hre; exact absurd hre.symm h
  rw [if_pos hck] at hre
  have hru : runErr inp.length ticks = 0 := by
    rcases Decidable.em (runErr inp.length ticks = 0) with h | h
    · exact h
    · rw [if_neg h] at hre; exact absurd hre.symm h
  clear hre
  obtain ⟨dn, rfl⟩ := Int.eq_ofNat_of_zero_le hd0
  obtain ⟨e1, e2, e3, e4, e5, e6⟩ := ans_run h0
  have HR : Hid (∀ W : World, Below w.heap.size w W → Calls Try.prog 6 #[.agg #[.slice a code.length cap, .int .i64 (dn : Int)], .slice ia inp.length icap, .int .i64 ticks, .int .i64 n] W fun e w' =>
      ∃ oa oc da dc, e = .returned (.tuple #[.agg #[.int .i64 (ansR code dn inp ticks n).en, .slice oa (ansR code dn inp ticks n).out.length oc, .slice da (ansR code dn inp ticks n).data.length dc, .int .i64 (ansR code dn inp ticks n).ticks], .int .i64 (ansR code dn inp ticks n).steps, .int .i64 0]) ∧
        NumsAt w' oa (ansR code dn inp ticks n).out ∧ NumsAt w' da (ansR code dn inp ticks n).data ∧ Below W.heap.size W w' ∧ (ansR code dn inp ticks n).out.length ≤ 200 ∧ (ansR code dn inp ticks n).data.length ≤ 512) := fun W hb => by
    have := Run_any a ia cap icap code dn inp ticks n W (hT.later hb) hl hfit (hI.later hb) hil hic him
    rw [e6] at this
    exact this.mono fun e w' ⟨oa, oc, da, dc, k1, k2, k3, k4, _, k5, k6⟩ => ⟨oa, oc, da, dc, k1, k2.at, k3.at, k4, k5, k6⟩
  have HG : Hid (∀ W : World, Below w.heap.size w W → Calls Try.prog 9 #[.agg #[.slice a code.length cap, .int .i64 (dn : Int)], .slice ia inp.length icap, .int .i64 ticks, .int .i64 n] W fun e w' =>
      ∃ oa oc da dc, e = .returned (.tuple #[.agg #[.int .i64 (ansR code dn inp ticks n).en, .slice oa (ansR code dn inp ticks n).out.length oc, .slice da (ansR code dn inp ticks n).data.length dc, .int .i64 (ansR code dn inp ticks n).ticks], .int .i64 (ansR code dn inp ticks n).steps]) ∧
        NumsFrom W.heap.size w' oa (ansR code dn inp ticks n).out ∧ NumsFrom W.heap.size w' da (ansR code dn inp ticks n).data ∧ Below W.heap.size W w') := fun W hb => by
    have := RunImage_any a ia cap icap code dn inp ticks n W (hT.later hb) ⟨ht1, hs1, hc2, fun i hi => by
      have := List.all_eq_true.1 hops i hi
      simp [opB] at this
      exact ⟨this.1, this.2, (hfit i hi).1, (hfit i hi).2⟩⟩ hc1 (hI.later hb) hin hic him (by omega) ht0 hs0
    rw [e1, e2, e3, e4, e5] at this
    exact this
  have HC : Hid (∀ W : World, Below w.heap.size w W → Calls Try.prog 11 #[.agg #[.slice a code.length cap, .int .i64 (dn : Int)]] W fun e w' => e = .returned (.int .i64 0) ∧ Below W.heap.size W w') := fun W hb => by
    have := Check_any a cap code dn W (hT.later hb) hl
    rw [hck] at this
    exact this
  have HD : Hid (∀ W : World, Below w.heap.size w W → Calls Try.prog 7 #[.agg #[.slice a code.length cap, .int .i64 (dn : Int)]] W fun e w' => e = .returned (.int .i64 0) ∧ Below W.heap.size W w') := fun W hb => by
    have := CheckImage_any a cap code dn W (hT.later hb) hl
    rw [hck] at this
    exact this
  have HE : Hid (∀ W : World, Calls Try.prog 8 #[.slice ia inp.length icap, .int .i64 ticks] W fun e w' => e = .returned (.int .i64 0) ∧ w' = W) := fun W => by
    have := RunError_any ia inp.length icap ticks W
    rw [hru] at this
    exact this
  clear hT hI hfit hl hil him hic h0 hck hru e1 e2 e3 e4 e5 e6 hops hc1 hc2 hin
  generalize ansR code dn inp ticks n = r at *
  generalize code.length = cl at *
  generalize inp.length = il at *
  have HB1 : Hid (Below w.heap.size w (w.alloc (.cells #[.slice a cl cap, .int .i64 (dn : Int)] 24))) := (Below.refl _ _).alloc (Nat.le_refl _) _
  go_enter Try.func3, Try.ntmps3
  go_wp2_with fail
  refine (HF.out _).mono ?_
  rintro e w1 ⟨rfl, h1⟩
  obtain rfl := h1.symm
  go_wp2_with fail
  refine (HR.out _ HB1.out).mono ?_
  rintro e w2 ⟨oa, oc, da, dc, rfl, hO, hDa, hb2, hol, hdl⟩
  have HO := hid hO
  have HDa := hid hDa
  have HRl : Hid (r.out.length ≤ 1000000000000000) := Nat.le_trans hol (by decide)
  have HRd : Hid (r.data.length ≤ 1000000000000000) := Nat.le_trans hdl (by decide)
  have HB2 : Hid (Below w.heap.size w w2) := HB1.out.trans (hb2.mono HB1.out.size)
  have hz2 : w.heap.size < w2.heap.size := by have := hb2.size; simp at this; omega
  have hne2 : w.heap.size ≠ w2.heap.size := by omega
  have i0 : w2.cell? ⟨w.heap.size, 0, none⟩ = some (.slice a cl cap) := (hb2.cell (p := ⟨w.heap.size, 0, none⟩) (by simp)).trans (by simp)
  have i1 : w2.cell? ⟨w.heap.size, 1, none⟩ = some (.int .i64 (dn : Int)) := (hb2.cell (p := ⟨w.heap.size, 1, none⟩) (by simp)).trans (by simp)
  clear hol hdl hO hDa hb2 HR HF HB1
  go_wp2_with fail
  refine (HD.out _ (HB2.out.alloc HB2.out.size _)).mono ?_
  rintro e w3 ⟨rfl, hb3⟩
  have HB3 := hid hb3
  have hz3 : w2.heap.size + 1 ≤ w3.heap.size := by have := hb3.size; simpa using this
  have hbw3 : Below w.heap.size w w3 := (HB2.out.alloc HB2.out.size _).trans (hb3.mono (by have := HB2.out.size; simp; omega))
  have HBW3 := hid hbw3
  have j0 : w3.cell? ⟨w.heap.size, 0, none⟩ = some (.slice a cl cap) := (hb3.cell (p := ⟨w.heap.size, 0, none⟩) (by simp; omega)).trans ((((Below.refl _ _).alloc (Nat.le_refl _) _ : Below w2.heap.size w2 (w2.alloc (RBlk r oa da oc dc))).cell (p := ⟨w.heap.size, 0, none⟩) hz2).trans i0)
  have j1 : w3.cell? ⟨w.heap.size, 1, none⟩ = some (.int .i64 (dn : Int)) := (hb3.cell (p := ⟨w.heap.size, 1, none⟩) (by simp; omega)).trans ((((Below.refl _ _).alloc (Nat.le_refl _) _ : Below w2.heap.size w2 (w2.alloc (RBlk r oa da oc dc))).cell (p := ⟨w.heap.size, 1, none⟩) hz2).trans i1)
  have hz4 : w.heap.size < w3.heap.size := by omega
  have hne3 : w.heap.size ≠ w3.heap.size := by omega
  clear hb3 hbw3
  go_wp2_with fail
  refine (HE.out _).mono ?_
  rintro e w1 ⟨rfl, h1⟩
  obtain rfl := h1.symm
  go_wp2_with fail
  refine (HG.out _ (HBW3.out.alloc HBW3.out.size _)).mono ?_
  rintro e w4 ⟨qa, qc, qd, qe, rfl, hQ, hQD, hb4⟩
  have HB4 := hid hb4
  have HQ := hid hQ
  have HQD := hid hQD
  have kq : w4.heap[w3.heap.size]? = some ZBlk := (hb4.block _ (by simp)).trans (_root_.Go.heap_alloc_new w3 _)
  have hz5 : w3.heap.size < w4.heap.size := lt_of_heap kq
  have x0 : w4.cell? ⟨w3.heap.size, 0, none⟩ = some (.int .i64 0) := by rw [Lib.cell_of_heap kq]; rfl
  have x1 : w4.cell? ⟨w3.heap.size, 1, none⟩ = some (.slice none 0 0) := by rw [Lib.cell_of_heap kq]; rfl
  have x2 : w4.cell? ⟨w3.heap.size, 2, none⟩ = some (.slice none 0 0) := by rw [Lib.cell_of_heap kq]; rfl
  have x3 : w4.cell? ⟨w3.heap.size, 3, none⟩ = some (.int .i64 0) := by rw [Lib.cell_of_heap kq]; rfl
  have xf : ∀ j, w4.frozen? ⟨w3.heap.size, j, none⟩ = false := fun j => Lib.frozen_of_heap kq j
  clear hQ hQD hb4 kq
  go_wp2_with fail
  have HY := hid (endF_mk (qc := qc) (qe := qe) HB2.out hz2 i0 i1 HB3.out HB4.out HO.out HDa.out HQ.out HQD.out)
  generalize (((w4.setCell ⟨w3.heap.size, 0, none⟩ (.int .i64 r.en)).setCell ⟨w3.heap.size, 1, none⟩ (.slice qa r.out.length qc)).setCell ⟨w3.heap.size, 2, none⟩ (.slice qd r.data.length qe)).setCell ⟨w3.heap.size, 3, none⟩ (.int .i64 r.ticks) = W5 at *
  have HY5 := hid (HY.out.later (Below.refl _ _).drew)
  clear i0 i1 j0 j1 x0 x1 x2 x3 xf HB3 HB4 HO HDa HQ HQD HB2 HBW3 HG HE hz5
  have FF := hid (⟨HY5.out.i0, HY5.out.i1, HY5.out.t.r0, HY5.out.t.r1, HY5.out.t.r2, HY5.out.t.r3, HY5.out.t.q0, HY5.out.t.q1, HY5.out.t.q2, HY5.out.t.q3⟩ : _ ∧ _ ∧ _ ∧ _ ∧ _ ∧ _ ∧ _ ∧ _ ∧ _ ∧ _)
  go_region_held (fun W => W.cell? ⟨w.heap.size, 0, none⟩ = some (.slice a cl cap) ∧ W.cell? ⟨w.heap.size, 1, none⟩ = some (.int .i64 (dn : Int)) ∧ W.cell? ⟨w2.heap.size, 0, none⟩ = some (.int .i64 r.en) ∧ W.cell? ⟨w2.heap.size, 1, none⟩ = some (.slice oa r.out.length oc) ∧ W.cell? ⟨w2.heap.size, 2, none⟩ = some (.slice da r.data.length dc) ∧ W.cell? ⟨w2.heap.size, 3, none⟩ = some (.int .i64 r.ticks) ∧ W.cell? ⟨w3.heap.size, 0, none⟩ = some (.int .i64 r.en) ∧ W.cell? ⟨w3.heap.size, 1, none⟩ = some (.slice qa r.out.length qc) ∧ W.cell? ⟨w3.heap.size, 2, none⟩ = some (.slice qd r.data.length qe) ∧ W.cell? ⟨w3.heap.size, 3, none⟩ = some (.int .i64 r.ticks)) (exact FF.out)
    (first
    | (go_at_call 10; refine (machBegun_any _).mono ?_; rintro e w6 ⟨rfl, hb6⟩; have HY6 := hid (HY5.out.later hb6); have FF := hid (⟨HY6.out.i0, HY6.out.i1, HY6.out.t.r0, HY6.out.t.r1, HY6.out.t.r2, HY6.out.t.r3, HY6.out.t.q0, HY6.out.t.q1, HY6.out.t.q2, HY6.out.t.q3⟩ : _ ∧ _ ∧ _ ∧ _ ∧ _ ∧ _ ∧ _ ∧ _ ∧ _ ∧ _))
    | (go_at_call 11; refine (HC.out _ HY6.out.t.below).mono ?_; rintro e w7 ⟨rfl, hb7⟩; have HY7 := hid (HY6.out.later hb7); have FF := hid (⟨HY7.out.i0, HY7.out.i1, HY7.out.t.r0, HY7.out.t.r1, HY7.out.t.r2, HY7.out.t.r3, HY7.out.t.q0, HY7.out.t.q1, HY7.out.t.q2, HY7.out.t.q3⟩ : _ ∧ _ ∧ _ ∧ _ ∧ _ ∧ _ ∧ _ ∧ _ ∧ _ ∧ _))
    | (go_at_call 7; refine (HD.out _ HY7.out.t.below).mono ?_; rintro e w8 ⟨rfl, hb8⟩; have HY8 := hid (HY7.out.later hb8); have FF := hid (⟨HY8.out.i0, HY8.out.i1, HY8.out.t.r0, HY8.out.t.r1, HY8.out.t.r2, HY8.out.t.r3, HY8.out.t.q0, HY8.out.t.q1, HY8.out.t.q2, HY8.out.t.q3⟩ : _ ∧ _ ∧ _ ∧ _ ∧ _ ∧ _ ∧ _ ∧ _ ∧ _ ∧ _))
    | (go_at_call 12; refine (SameResults_same r.en r.ticks oa qa da qd oc qc dc qe r.out r.data _ HY8.out.t.nr HY8.out.t.nq HY8.out.t.nd HY8.out.t.ne HRl.out HRd.out).mono ?_; rintro e w9 ⟨rfl, hb9⟩; have HZ := hid (HY8.out.t.below.trans (hb9.mono HY8.out.t.below.size)); have HY9 := hid (HY8.out.later hb9); have FF := hid (⟨HY9.out.i0, HY9.out.i1, HY9.out.t.r0, HY9.out.t.r1, HY9.out.t.r2, HY9.out.t.r3, HY9.out.t.q0, HY9.out.t.q1, HY9.out.t.q2, HY9.out.t.q3⟩ : _ ∧ _ ∧ _ ∧ _ ∧ _ ∧ _ ∧ _ ∧ _ ∧ _ ∧ _)))
  all_goals
    go_wp2_with fail
    go_ret
    exact ⟨rfl, HZ.out⟩

end Go.Proofs.Ytljdoholcdhkhaa
