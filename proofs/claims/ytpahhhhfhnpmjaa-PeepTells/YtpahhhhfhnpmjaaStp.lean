/-
  One step of the machine.
-/
import Derived.Test.YtpahhhhfhnpmjaaDob
import Derived.Deep.RegionHeldLaw
namespace Go.Proofs.Ytpahhhhfhnpmjaa
open Go.RowKit Go.Shelf
set_option maxRecDepth 100000

theorem do_any (B R : Nat) (c : Mc.Cfg) (w0 : World) (s : Mc.St) (i : Mc.Ins) (w : World) (h : Mch B R c w0 w s) (h1 : 1 ≤ i.op) (h2 : i.op ≤ 22) (ha : fit64 i.a) (hb : fit64 i.b) :
    Calls Try.prog 46 #[.pointer (some ⟨R, 0, none⟩), .agg #[.int .i64 i.op, .int .i64 i.a, .int .i64 i.b]] w (MEnd B R c w0 (Mc.doI c.mt i s) unitV) := by
  obtain ⟨op, a, b⟩ := i
  simp only at h1 h2 ha hb ⊢
  have hc : op = 1 ∨ op = 2 ∨ op = 3 ∨ op = 4 ∨ op = 5 ∨ op = 6 ∨ op = 7 ∨ op = 8 ∨ op = 9 ∨ op = 10 ∨ op = 11 ∨ op = 12 ∨ op = 13 ∨ op = 14 ∨ op = 15 ∨ op = 16 ∨ op = 17 ∨ op = 18 ∨ op = 19 ∨ op = 20 ∨ op = 21 ∨ op = 22 := by omega
  rcases hc with rfl | rfl | rfl | rfl | rfl | rfl | rfl | rfl | rfl | rfl | rfl | rfl | rfl | rfl | rfl | rfl | rfl | rfl | rfl | rfl | rfl | rfl
  · exact do1 B R c w0 s a b w h
  · exact do2 B R c w0 s a b w h
  · exact do3 B R c w0 s a b w h
  · exact do4 B R c w0 s a b w h
  · exact do5 B R c w0 s a b w h
  · exact do6 B R c w0 s a b w h
  · exact do7 B R c w0 s a b w h
  · exact do8 B R c w0 s a b w h
  · exact do9 B R c w0 s a b w h
  · exact do10 B R c w0 s a b w h
  · exact do11 B R c w0 s a b w h
  · exact do12 B R c w0 s a b w h
  · exact do13 B R c w0 s a b w h
  · exact do14 B R c w0 s a b w h ha hb
  · exact do15 B R c w0 s a b w h
  · exact do16 B R c w0 s a b w h
  · exact do17 B R c w0 s a b w h
  · exact do18 B R c w0 s a b w h
  · exact do19 B R c w0 s a b w h
  · exact do20 B R c w0 s a b w h
  · exact do21 B R c w0 s a b w h
  · exact do22 B R c w0 s a b w h
theorem en33 : Enters Try.prog 45 := enters_of Try.func45 (by kernel_rfl) rfl

set_option maxHeartbeats 1600000 in
theorem step_any (B R : Nat) (c : Mc.Cfg) (w0 : World) (s : Mc.St) (w : World) (h : Mch B R c w0 w s) :
    Calls Try.prog 41 #[.pointer (some ⟨R, 0, none⟩)] w (MEnd B R c w0 (Mc.step c s) unitV) := by
  obtain ⟨T, ⟨cv, st, lo, fr, da, iv, ou⟩, h⟩ := h
  obtain ⟨cb, coff, ccap, hv, hcb, hcode⟩ := h.code
  simp only at hv
  subst hv
  have HA := hid h
  obtain ⟨c0, c1, -, -, -, -, -, -, -, -, c10, c11, c12, hf⟩ := h.cell
  simp only at c0
  have hs0 := h.sp.1
  have hs1 := h.sp.2
  have hms := h.cfg.ms
  have hcl := h.cfg.len
  have hRl := h.ltR
  have HC : Hid (∀ (k : Nat) (hk : k < c.code.length), w.cell? ⟨cb, coff + k * 3, none⟩ = some (.int .i64 c.code[k].op) ∧ w.cell? ⟨cb, coff + k * 3 + 1, none⟩ = some (.int .i64 c.code[k].a) ∧ w.cell? ⟨cb, coff + k * 3 + 2, none⟩ = some (.int .i64 c.code[k].b)) := fun k hk => by
    obtain ⟨h1, h2, h3⟩ := hcode k hk
    exact ⟨(h.below.cell (p := ⟨cb, coff + k * 3, none⟩) hcb).trans h1, (h.below.cell (p := ⟨cb, coff + k * 3 + 1, none⟩) hcb).trans h2, (h.below.cell (p := ⟨cb, coff + k * 3 + 2, none⟩) hcb).trans h3⟩
  have hcR : cb ≠ R := by have := h.hR; omega
  have hcw : cb < w.heap.size := Nat.lt_of_lt_of_le hcb h.hB
  clear h hcode
  by_cases hst : s.steps = c.ms
  · have HP : Hid (Mc.step c s = .stop { s with en := 7 }) := if_pos hst
    have hb : (s.steps == c.ms) = true := beq_iff_eq.2 hst
    clear hst
    go_enter Try.func41, Try.ntmps41
    go_wp2_with fail
    go_quiet ((fail))
    go_wp2_with fail
    refine (halt_any 7 _ ⟨_, _, HA.out.drewN _⟩).mono ?_
    rintro e w2 ⟨rfl, hm⟩
    go_wp2_with fail
    exact ⟨rfl, MEnd.stop HP.out rfl hm⟩
  · have hb : (s.steps == c.ms) = false := beq_eq_false_iff_ne.2 hst
    have hlt : s.steps < c.ms := by omega
    have HA1 : Hid (∀ n, MAt B R c w0 ((w.drewN n).setCell ⟨R, 11, none⟩ (.int .i64 (s.steps + 1))) T ⟨.slice (some ⟨cb, coff, none⟩) c.code.length ccap, st, lo, fr, da, iv, ou⟩ { s with steps := s.steps + 1 }) := fun n => (HA.out.drewN n).setSteps _ (by omega) (by omega)
    by_cases hpc : 0 ≤ s.pc ∧ s.pc < c.code.length
    · have HP : Hid (Mc.step c s = Mc.doI c.mt (c.code.getD s.pc.toNat ⟨0, 0, 0⟩) { s with steps := s.steps + 1, pc := s.pc + 1 }) := (if_neg hst).trans (if_pos hpc)
      clear hst
      obtain ⟨hp0, hp1⟩ := hpc
      obtain ⟨k, hk⟩ := Int.eq_ofNat_of_zero_le hp0
      have hkl : k < c.code.length := by omega
      obtain ⟨e0, e1, e2⟩ := HC.out k hkl
      have hD : c.code.getD s.pc.toNat ⟨0, 0, 0⟩ = c.code[k] := by rw [hk, Int.toNat_natCast, List.getD_eq_getElem?_getD, List.getElem?_eq_getElem hkl]; rfl
      rw [hD] at HP
      have HI : Hid (1 ≤ c.code[k].op ∧ c.code[k].op ≤ 22 ∧ fit64 c.code[k].a ∧ fit64 c.code[k].b) := HA.out.cfg.ops _ (List.getElem_mem hkl)
      have HK := hid hk
      rw [hk] at c1
      clear HC
      generalize c.code[k] = ins at *
      obtain ⟨op, a, b⟩ := ins
      simp only at e0 e1 e2
      generalize c.code.length = N at *
      clear hD hk hp0 hp1
      have hklI : (k : Int) < (N : Int) := by omega
      have hk0 : (0 : Int) ≤ (k : Int) := by omega
      go_enter Try.func41, Try.ntmps41
      go_wp2_with fail
      go_quiet ((fail))
      go_wp2_with fail
      go_quiet ((go_at_call 45; exact Calls.quiet_of_same (must_yes _ _ _ (by first | (simp; done) | (simp; omega)))))
      go_wp2_with fail
      go_region
      go_wp2_with fail
      refine (do_any B R c w0 { s with steps := s.steps + 1, pc := s.pc + 1 } ⟨op, a, b⟩ _ ?_ HI.out.1 HI.out.2.1 HI.out.2.2.1 HI.out.2.2.2).mono ?_
      · rw [HK.out]
        exact ⟨_, _, (((HA1.out _).drewN _).setPc _).alloc _⟩
      intro e w1 he
      rcases he.parts with ⟨u, s1, HR, rfl, Hm⟩ | ⟨s1, HR, rfl, Hm⟩ <;> clear he <;> simp only [unitV]
      · go_wp2_with fail
        go_returns
        exact MEnd.ok (HP.out.trans HR.out) rfl Hm.out
      · go_wp2_with fail
        exact ⟨rfl, MEnd.of_stop (HP.out.trans HR.out) Hm.out⟩
    · have HP : Hid (Mc.step c s = .stop { s with steps := s.steps + 1, en := 6 }) := (if_neg hst).trans (if_neg hpc)
      clear hst HC
      generalize c.code.length = N at *
      clear c0 c1
      by_cases hp0 : 0 ≤ s.pc
      · have hp1 : ¬ s.pc < N := fun h => hpc ⟨hp0, h⟩
        obtain ⟨n, hn⟩ := Int.eq_ofNat_of_zero_le hp0
        have hge : (N : Int) ≤ (n : Int) := by omega
        have HN := hid hn
        clear hpc hp1 hp0
        go_enter Try.func41, Try.ntmps41
        go_wp2_with fail
        go_quiet ((fail))
        go_wp2_with fail
        have HAW := hid (HA1.out nq)
        clear HA1 HA
        generalize (w.drewN nq).setCell ⟨R, 11, none⟩ (.int .i64 (s.steps + 1)) = W at *
        have d0 := HAW.out.cell.1
        have d1 := HAW.out.cell.2.1
        simp only [hn] at d0 d1
        clear hn
        refine wp_region_held (S := fun w' => w'.cell? ⟨R, 1, none⟩ = some (.int .i64 (n : Int)) ∧ w'.cell? ⟨R, 0, none⟩ = some (.slice (some ⟨cb, coff, none⟩) N ccap)) (by kernel_rfl) ?_
        change wpAnyH _ _ _ _ _ _ _ _ (World.drew W)
        have hS : (fun w' : World => w'.cell? ⟨R, 1, none⟩ = some (.int .i64 (n : Int)) ∧ w'.cell? ⟨R, 0, none⟩ = some (.slice (some ⟨cb, coff, none⟩) N ccap)) W.drew := ⟨d1, d0⟩
        refine wpAnyH_take (i := 0) (v := .pointer (some ⟨R, 0, none⟩)) rfl (by kernel_rfl) (by kernel_rfl) (by kernel_rfl) (fun _ _ _ h => h) (Or.inl ⟨by kernel_rfl, fun w ⟨h1, h2⟩ => by go_simp⟩) hS ?_
        refine wpAnyH_take (i := 1) (v := .pointer (some ⟨R, 0, none⟩)) rfl (by kernel_rfl) (by kernel_rfl) (by kernel_rfl) (fun _ _ _ h => h) (Or.inl ⟨by kernel_rfl, fun w ⟨h1, h2⟩ => by go_simp⟩) hS ?_
        refine wpAnyH_take (i := 2) (v := .pointer (some ⟨R, 0, none⟩)) rfl (by kernel_rfl) (by kernel_rfl) (by kernel_rfl) (fun _ _ _ h => h) (Or.inl ⟨by kernel_rfl, fun w ⟨h1, h2⟩ => by go_simp⟩) hS ?_
        refine wpAnyH_take (i := 3) (v := .pointer (some ⟨R, 1, none⟩)) rfl (by kernel_rfl) (by kernel_rfl) (by kernel_rfl) (fun _ _ _ h => h) (Or.inl ⟨by kernel_rfl, fun w ⟨h1, h2⟩ => by go_simp⟩) hS ?_
        refine wpAnyH_take (i := 4) (v := .int .i64 (n : Int)) rfl (by kernel_rfl) (by kernel_rfl) (by kernel_rfl) (fun _ _ _ h => h) (Or.inl ⟨by kernel_rfl, fun w ⟨h1, h2⟩ => by go_simp⟩) hS ?_
        refine wpAnyH_take (i := 5) (v := .bool true) rfl (by kernel_rfl) (by kernel_rfl) (by kernel_rfl) (fun _ _ _ h => h) (Or.inl ⟨by kernel_rfl, fun w ⟨h1, h2⟩ => by go_simp⟩) hS ?_
        refine wpAnyH_take (i := 6) (v := .bool true) rfl (by kernel_rfl) (by kernel_rfl) (by kernel_rfl) (fun _ _ _ h => h) (Or.inl ⟨by kernel_rfl, fun w ⟨h1, h2⟩ => by go_simp⟩) hS ?_
        refine wpAnyH_take (i := 7) (v := .pointer (some ⟨R, 0, none⟩)) rfl (by kernel_rfl) (by kernel_rfl) (by kernel_rfl) (fun _ _ _ h => h) (Or.inl ⟨by kernel_rfl, fun w ⟨h1, h2⟩ => by go_simp⟩) hS ?_
        refine wpAnyH_take (i := 8) (v := .pointer (some ⟨R, 0, none⟩)) rfl (by kernel_rfl) (by kernel_rfl) (by kernel_rfl) (fun _ _ _ h => h) (Or.inl ⟨by kernel_rfl, fun w ⟨h1, h2⟩ => by go_simp⟩) hS ?_
        refine wpAnyH_take (i := 9) (v := .pointer (some ⟨R, 1, none⟩)) rfl (by kernel_rfl) (by kernel_rfl) (by kernel_rfl) (fun _ _ _ h => h) (Or.inl ⟨by kernel_rfl, fun w ⟨h1, h2⟩ => by go_simp⟩) hS ?_
        refine wpAnyH_take (i := 10) (v := .int .i64 (n : Int)) rfl (by kernel_rfl) (by kernel_rfl) (by kernel_rfl) (fun _ _ _ h => h) (Or.inl ⟨by kernel_rfl, fun w ⟨h1, h2⟩ => by go_simp⟩) hS ?_
        refine wpAnyH_take (i := 11) (v := .pointer (some ⟨R, 0, none⟩)) rfl (by kernel_rfl) (by kernel_rfl) (by kernel_rfl) (fun _ _ _ h => h) (Or.inl ⟨by kernel_rfl, fun w ⟨h1, h2⟩ => by go_simp⟩) hS ?_
        refine wpAnyH_take (i := 12) (v := .pointer (some ⟨R, 0, none⟩)) rfl (by kernel_rfl) (by kernel_rfl) (by kernel_rfl) (fun _ _ _ h => h) (Or.inl ⟨by kernel_rfl, fun w ⟨h1, h2⟩ => by go_simp⟩) hS ?_
        refine wpAnyH_take (i := 13) (v := .pointer (some ⟨R, 0, none⟩)) rfl (by kernel_rfl) (by kernel_rfl) (by kernel_rfl) (fun _ _ _ h => h) (Or.inl ⟨by kernel_rfl, fun w ⟨h1, h2⟩ => by go_simp⟩) hS ?_
        refine wpAnyH_take (i := 14) (v := .slice (some ⟨cb, coff, none⟩) N ccap) rfl (by kernel_rfl) (by kernel_rfl) (by kernel_rfl) (fun _ _ _ h => h) (Or.inl ⟨by kernel_rfl, fun w ⟨h1, h2⟩ => by go_simp⟩) hS ?_
        refine wpAnyH_take (i := 15) (v := .int .i64 (N : Int)) rfl (by kernel_rfl) (by kernel_rfl) (by kernel_rfl) (fun _ _ _ h => h) (Or.inl ⟨by kernel_rfl, fun w ⟨h1, h2⟩ => by go_simp⟩) hS ?_
        refine wpAnyH_take (i := 16) (v := .bool false) rfl (by kernel_rfl) (by kernel_rfl) (by kernel_rfl) (fun _ _ _ h => h) (Or.inl ⟨by kernel_rfl, fun w ⟨h1, h2⟩ => by go_simp; omega⟩) hS ?_
        refine wpAnyH_take (i := 17) (v := .bool false) rfl (by kernel_rfl) (by kernel_rfl) (by kernel_rfl) (fun _ _ _ h => h) (Or.inl ⟨by kernel_rfl, fun w ⟨h1, h2⟩ => by go_simp⟩) hS ?_
        refine wpAnyH_all (rs := [18]) (by kernel_rfl) (by simp) ?_
        intro i hi
        obtain rfl := List.mem_singleton.1 hi
        refine wpOp_callE rfl rfl 45 _ _ rfl en33 #[.pointer (some ⟨R, 0, none⟩), .bool false] (by kernel_rfl) (broken_any _ _ rfl ⟨_, _, HAW.out.drew⟩) (fun w' h => by cases h.1) (fun ch w' h => ?_) (fun _ _ h => by cases h.1)
        obtain ⟨h1, hm⟩ := h
        cases h1
        exact ⟨rfl, MEnd.stop HP.out rfl hm⟩
      · obtain ⟨n, hn⟩ : ∃ n, s.pc = Int.negSucc n := ⟨(-s.pc - 1).toNat, by omega⟩
        have HN := hid hn
        clear hpc hp0
        go_enter Try.func41, Try.ntmps41
        go_wp2_with fail
        go_quiet ((fail))
        go_wp2_with fail
        have HAW := hid (HA1.out nq)
        clear HA1 HA
        generalize (w.drewN nq).setCell ⟨R, 11, none⟩ (.int .i64 (s.steps + 1)) = W at *
        have d1 := HAW.out.cell.2.1
        simp only [hn] at d1
        clear hn
        refine wp_region_held (S := fun w' => w'.cell? ⟨R, 1, none⟩ = some (.int .i64 (Int.negSucc n))) (by kernel_rfl) ?_
        change wpAnyH _ _ _ _ _ _ _ _ (World.drew W)
        have hS : (fun w' : World => w'.cell? ⟨R, 1, none⟩ = some (.int .i64 (Int.negSucc n))) W.drew := d1
        refine wpAnyH_take (i := 0) (v := .pointer (some ⟨R, 0, none⟩)) rfl (by kernel_rfl) (by kernel_rfl) (by kernel_rfl) (fun _ _ _ h => h) (Or.inl ⟨by kernel_rfl, fun w hS => by go_simp⟩) hS ?_
        refine wpAnyH_take (i := 1) (v := .pointer (some ⟨R, 0, none⟩)) rfl (by kernel_rfl) (by kernel_rfl) (by kernel_rfl) (fun _ _ _ h => h) (Or.inl ⟨by kernel_rfl, fun w hS => by go_simp⟩) hS ?_
        refine wpAnyH_take (i := 2) (v := .pointer (some ⟨R, 0, none⟩)) rfl (by kernel_rfl) (by kernel_rfl) (by kernel_rfl) (fun _ _ _ h => h) (Or.inl ⟨by kernel_rfl, fun w hS => by go_simp⟩) hS ?_
        refine wpAnyH_take (i := 3) (v := .pointer (some ⟨R, 1, none⟩)) rfl (by kernel_rfl) (by kernel_rfl) (by kernel_rfl) (fun _ _ _ h => h) (Or.inl ⟨by kernel_rfl, fun w hS => by go_simp⟩) hS ?_
        refine wpAnyH_take (i := 4) (v := .int .i64 (Int.negSucc n)) rfl (by kernel_rfl) (by kernel_rfl) (by kernel_rfl) (fun _ _ _ h => h) (Or.inl ⟨by kernel_rfl, fun w hS => by go_simp⟩) hS ?_
        refine wpAnyH_take (i := 5) (v := .bool false) rfl (by kernel_rfl) (by kernel_rfl) (by kernel_rfl) (fun _ _ _ h => h) (Or.inl ⟨by kernel_rfl, fun w hS => by go_simp⟩) hS ?_
        refine wpAnyH_take (i := 6) (v := .bool false) rfl (by kernel_rfl) (by kernel_rfl) (by kernel_rfl) (fun _ _ _ h => h) (Or.inl ⟨by kernel_rfl, fun w hS => by go_simp⟩) hS ?_
        refine wpAnyH_take (i := 7) (v := undef) rfl (by kernel_rfl) (by kernel_rfl) (by kernel_rfl) (fun _ _ _ h => h) (Or.inr ⟨by kernel_rfl, rfl⟩) hS ?_
        refine wpAnyH_take (i := 8) (v := undef) rfl (by kernel_rfl) (by kernel_rfl) (by kernel_rfl) (fun _ _ _ h => h) (Or.inr ⟨by kernel_rfl, rfl⟩) hS ?_
        refine wpAnyH_take (i := 9) (v := undef) rfl (by kernel_rfl) (by kernel_rfl) (by kernel_rfl) (fun _ _ _ h => h) (Or.inr ⟨by kernel_rfl, rfl⟩) hS ?_
        refine wpAnyH_take (i := 10) (v := undef) rfl (by kernel_rfl) (by kernel_rfl) (by kernel_rfl) (fun _ _ _ h => h) (Or.inr ⟨by kernel_rfl, rfl⟩) hS ?_
        refine wpAnyH_take (i := 11) (v := undef) rfl (by kernel_rfl) (by kernel_rfl) (by kernel_rfl) (fun _ _ _ h => h) (Or.inr ⟨by kernel_rfl, rfl⟩) hS ?_
        refine wpAnyH_take (i := 12) (v := undef) rfl (by kernel_rfl) (by kernel_rfl) (by kernel_rfl) (fun _ _ _ h => h) (Or.inr ⟨by kernel_rfl, rfl⟩) hS ?_
        refine wpAnyH_take (i := 13) (v := undef) rfl (by kernel_rfl) (by kernel_rfl) (by kernel_rfl) (fun _ _ _ h => h) (Or.inr ⟨by kernel_rfl, rfl⟩) hS ?_
        refine wpAnyH_take (i := 14) (v := undef) rfl (by kernel_rfl) (by kernel_rfl) (by kernel_rfl) (fun _ _ _ h => h) (Or.inr ⟨by kernel_rfl, rfl⟩) hS ?_
        refine wpAnyH_take (i := 15) (v := undef) rfl (by kernel_rfl) (by kernel_rfl) (by kernel_rfl) (fun _ _ _ h => h) (Or.inr ⟨by kernel_rfl, rfl⟩) hS ?_
        refine wpAnyH_take (i := 16) (v := undef) rfl (by kernel_rfl) (by kernel_rfl) (by kernel_rfl) (fun _ _ _ h => h) (Or.inr ⟨by kernel_rfl, rfl⟩) hS ?_
        refine wpAnyH_take (i := 17) (v := .bool false) rfl (by kernel_rfl) (by kernel_rfl) (by kernel_rfl) (fun _ _ _ h => h) (Or.inl ⟨by kernel_rfl, fun w hS => by go_simp⟩) hS ?_
        refine wpAnyH_all (rs := [18]) (by kernel_rfl) (by simp) ?_
        intro i hi
        obtain rfl := List.mem_singleton.1 hi
        refine wpOp_callE rfl rfl 45 _ _ rfl en33 #[.pointer (some ⟨R, 0, none⟩), .bool false] (by kernel_rfl) (broken_any _ _ rfl ⟨_, _, HAW.out.drew⟩) (fun w' h => by cases h.1) (fun ch w' h => ?_) (fun _ _ h => by cases h.1)
        obtain ⟨h1, hm⟩ := h
        cases h1
        exact ⟨rfl, MEnd.stop HP.out rfl hm⟩

end Go.Proofs.Ytpahhhhfhnpmjaa
