/-
  The reference's machine does an instruction: places of the locals and of the data.
-/
import Derived.Test.YtljdoholcdhkhaaHa
namespace Go.Proofs.Ytljdoholcdhkhaa
open Go.RowKit Go.Shelf
set_option maxRecDepth 100000

set_option maxHeartbeats 800000 in
theorem gdo2 (B R : Nat) (mt : Int) (w0 : World) (F : Value) (L : List Value) (g : Rg.G) (a b : Int) (w : World) (h : Gch B R mt w0 (F, none) L w g) (hp : DoOk g ⟨2, a, b⟩) : GDoes B R mt w0 g ⟨2, a, b⟩ w := by
  obtain ⟨q, cap, k, hF, hk, hk24, hcap, hmax, hql, hRl, c0, c2, hpc0, hpc1, hw1, HB⟩ := h.start _ hp
  have HP : Hid (Rg.doI mt ⟨2, a, b⟩ g = Rg.at_ (g.s.pc + 1) (Rg.pushLo a (Rg.loc a g))) := rfl
  have HC : Hid (∀ n, Calls Try.prog 25 #[.pointer (some ⟨R, 0, none⟩), .int .i64 a] ((w.alloc (bxOf ⟨2, a, b⟩)).drewN n) (GEnd B R mt w0 (F, some (w.heap.size, bxOf ⟨2, a, b⟩)) L (.bool (!(Rg.loc a g).o)) (Rg.loc a g))) := fun n => glocal_any _ _ _ _ _ _ _ _ _ (HB.out n)
  have HF := hid hF
  have HK := hid hk
  clear h hp hF hk HB
  cases ho : (Rg.loc a g).o with
  | true =>
    have HP2 : Hid (Rg.doI mt ⟨2, a, b⟩ g = Rg.at_ (g.s.pc + 1) (Rg.loc a g)) := HP.out.trans (by unfold Rg.pushLo; rw [if_pos ho])
    rw [ho] at HC
    clear HP ho
    unfold GDoes
    go_enter Try.func20, Try.ntmps20
    go_wp2_with fail
    go_quiet ((fail))
    go_wp2_with fail
    refine (HC.out _).mono ?_
    rintro e w1 ⟨rfl, H1⟩
    obtain ⟨⟨x, k1⟩, k2, k3⟩ := H1.get
    have H1 := hid H1
    go_wp2_with fail
    go_end0
    exact ⟨rfl, by rw [HP2.out]; exact H1.out.setPc _⟩
  | false =>
    obtain ⟨e0, e1, e2, e3⟩ := loc_no ho
    rw [ho, e0] at HC
    obtain ⟨n, rfl⟩ := Int.eq_ofNat_of_zero_le e2
    have hn : n < g.s.lo.length := by omega
    have HP2 : Hid (Rg.doI mt ⟨2, n, b⟩ g = Rg.at_ (g.s.pc + 1) (Rg.push (g.s.lo.getD n 0) g)) := HP.out.trans (by rw [e0]; unfold Rg.pushLo; rw [e1, Int.toNat_natCast]; rfl)
    clear HP ho e0 e1 e2 e3
    unfold GDoes
    go_enter Try.func20, Try.ntmps20
    go_wp2_with fail
    go_quiet ((fail))
    go_wp2_with fail
    refine (HC.out _).mono ?_
    rintro e w1 ⟨rfl, H1⟩
    obtain ⟨lq, lc, d0, d1, d2, d3, d4, d5, -⟩ := H1.topLo HF.out HK.out (n := n) (by omega)
    obtain ⟨b0, b1, b2, b3⟩ := H1.bxs
    have HC2 : Hid (Calls Try.prog 24 #[.pointer (some ⟨R, 0, none⟩), .int .i64 (g.s.lo.getD n 0)] w1.drew fun e w' => e = .returned (.tuple #[]) ∧ Gch B R mt w0 (F, some (w.heap.size, bxOf ⟨2, n, b⟩)) L w' (Rg.push (g.s.lo.getD n 0) g)) := gpush_any _ _ _ _ _ _ _ _ _ H1.drew
    clear H1 HC
    generalize g.s.lo.getD n 0 = y at *
    generalize g.s.lo.length = len at *
    go_wp2_with fail
    go_region_law (refine step_callR (by rfl) 24 _ _ (by rfl) en24 _ (by kernel_rfl) _ HC2.out ?_; intro w2 H1)
    all_goals
      obtain ⟨⟨x, k1⟩, k2, k3⟩ := H1.get
      have H1 := hid H1
      go_wp2_with fail
      go_end0
      exact ⟨rfl, by rw [HP2.out]; exact H1.out.setPc _⟩

set_option maxHeartbeats 800000 in
theorem gdo4 (B R : Nat) (mt : Int) (w0 : World) (F : Value) (L : List Value) (g : Rg.G) (a b : Int) (w : World) (h : Gch B R mt w0 (F, none) L w g) (hp : DoOk g ⟨4, a, b⟩) : GDoes B R mt w0 g ⟨4, a, b⟩ w := by
  obtain ⟨q, cap, k, hF, hk, hk24, hcap, hmax, hql, hRl, c0, c2, hpc0, hpc1, hw1, HB⟩ := h.start _ hp
  have HP : Hid (Rg.doI mt ⟨4, a, b⟩ g = Rg.at_ (g.s.pc + 1) (Rg.pushDa a (Rg.dat a g))) := rfl
  have HC : Hid (∀ n, Calls Try.prog 27 #[.pointer (some ⟨R, 0, none⟩), .int .i64 a] ((w.alloc (bxOf ⟨4, a, b⟩)).drewN n) (GEnd B R mt w0 (F, some (w.heap.size, bxOf ⟨4, a, b⟩)) L (.bool (!(Rg.dat a g).o)) (Rg.dat a g))) := fun n => gdatum_any _ _ _ _ _ _ _ _ _ (HB.out n)
  have HF := hid hF
  have HK := hid hk
  clear h hp hF hk HB
  cases ho : (Rg.dat a g).o with
  | true =>
    have HP2 : Hid (Rg.doI mt ⟨4, a, b⟩ g = Rg.at_ (g.s.pc + 1) (Rg.dat a g)) := HP.out.trans (by unfold Rg.pushDa; rw [if_pos ho])
    rw [ho] at HC
    clear HP ho
    unfold GDoes
    go_enter Try.func20, Try.ntmps20
    go_wp2_with fail
    go_quiet ((fail))
    go_wp2_with fail
    refine (HC.out _).mono ?_
    rintro e w1 ⟨rfl, H1⟩
    obtain ⟨⟨x, k1⟩, k2, k3⟩ := H1.get
    have H1 := hid H1
    go_wp2_with fail
    go_end0
    exact ⟨rfl, by rw [HP2.out]; exact H1.out.setPc _⟩
  | false =>
    obtain ⟨e0, e1, e2, e3⟩ := dat_no ho
    rw [ho, e0] at HC
    obtain ⟨n, rfl⟩ := Int.eq_ofNat_of_zero_le e2
    have hn : n < g.s.data.length := by omega
    have HP2 : Hid (Rg.doI mt ⟨4, n, b⟩ g = Rg.at_ (g.s.pc + 1) (Rg.push (g.s.data.getD n 0) g)) := HP.out.trans (by rw [e0]; unfold Rg.pushDa; rw [e1, Int.toNat_natCast]; rfl)
    clear HP ho e0 e1 e2 e3
    unfold GDoes
    go_enter Try.func20, Try.ntmps20
    go_wp2_with fail
    go_quiet ((fail))
    go_wp2_with fail
    refine (HC.out _).mono ?_
    rintro e w1 ⟨rfl, H1⟩
    obtain ⟨lq, lc, d0, d1, d2, d3, d4, d5, -⟩ := H1.data (n := n) (by omega)
    obtain ⟨b0, b1, b2, b3⟩ := H1.bxs
    have HC2 : Hid (Calls Try.prog 24 #[.pointer (some ⟨R, 0, none⟩), .int .i64 (g.s.data.getD n 0)] w1.drew fun e w' => e = .returned (.tuple #[]) ∧ Gch B R mt w0 (F, some (w.heap.size, bxOf ⟨4, n, b⟩)) L w' (Rg.push (g.s.data.getD n 0) g)) := gpush_any _ _ _ _ _ _ _ _ _ H1.drew
    clear H1 HC
    generalize g.s.data.getD n 0 = y at *
    generalize g.s.data.length = len at *
    go_wp2_with fail
    go_region_law (refine step_callR (by rfl) 24 _ _ (by rfl) en24 _ (by kernel_rfl) _ HC2.out ?_; intro w2 H1)
    all_goals
      obtain ⟨⟨x, k1⟩, k2, k3⟩ := H1.get
      have H1 := hid H1
      go_wp2_with fail
      go_end0
      exact ⟨rfl, by rw [HP2.out]; exact H1.out.setPc _⟩

set_option maxHeartbeats 800000 in
theorem gdo3 (B R : Nat) (mt : Int) (w0 : World) (F : Value) (L : List Value) (g : Rg.G) (a b : Int) (w : World) (h : Gch B R mt w0 (F, none) L w g) (hp : DoOk g ⟨3, a, b⟩) : GDoes B R mt w0 g ⟨3, a, b⟩ w := by
  obtain ⟨q, cap, k, hF, hk, hk24, hcap, hmax, hql, hRl, c0, c2, hpc0, hpc1, hw1, HB⟩ := h.start _ hp
  have HP : Hid (Rg.doI mt ⟨3, a, b⟩ g = Rg.at_ (g.s.pc + 1) (Rg.putLo a (Rg.pop g).1 (Rg.loc a (Rg.pop g).2))) := rfl
  have HC : Hid (∀ n, Calls Try.prog 26 #[.pointer (some ⟨R, 0, none⟩)] ((w.alloc (bxOf ⟨3, a, b⟩)).drewN n) (GEnd B R mt w0 (F, some (w.heap.size, bxOf ⟨3, a, b⟩)) L (.int .i64 (Rg.pop g).1) ((Rg.pop g).2))) := fun n => gpop_any _ _ _ _ _ _ _ _ (HB.out n)
  have HF := hid hF
  have HK : Hid ((Rg.pop g).2.s.gs.length = k) := by rw [pop_gs]; exact hk
  clear h hp hF hk HB
  generalize (Rg.pop g).1 = p at *
  generalize (Rg.pop g).2 = g2 at *
  unfold GDoes
  go_enter Try.func20, Try.ntmps20
  go_wp2_with fail
  go_quiet ((fail))
  go_wp2_with fail
  refine (HC.out _).mono ?_
  rintro e w1 ⟨rfl, H1⟩
  obtain ⟨b0, b1, b2, b3⟩ := H1.bxs
  have HC1 : Hid (Calls Try.prog 25 #[.pointer (some ⟨R, 0, none⟩), .int .i64 a] w1 (GEnd B R mt w0 (F, some (w.heap.size, bxOf ⟨3, a, b⟩)) L (.bool (!(Rg.loc a g2).o)) (Rg.loc a g2))) := glocal_any _ _ _ _ _ _ _ _ _ H1
  clear H1 HC
  go_wp2_with fail
  cases ho : (Rg.loc a g2).o with
  | true =>
    have HP2 : Hid (Rg.doI mt ⟨3, a, b⟩ g = Rg.at_ (g.s.pc + 1) (Rg.loc a g2)) := HP.out.trans (by unfold Rg.putLo; rw [if_pos ho])
    rw [ho] at HC1
    clear HP ho
    refine HC1.out.mono ?_
    rintro e w1 ⟨rfl, H1⟩
    obtain ⟨⟨x, k1⟩, k2, k3⟩ := H1.get
    have H1 := hid H1
    go_wp2_with fail
    go_end0
    exact ⟨rfl, by rw [HP2.out]; exact H1.out.setPc _⟩
  | false =>
    obtain ⟨e0, e1, e2, e3⟩ := loc_no ho
    rw [ho, e0] at HC1
    obtain ⟨n, rfl⟩ := Int.eq_ofNat_of_zero_le e2
    have hn : n < g2.s.lo.length := by omega
    have HP2 : Hid (Rg.doI mt ⟨3, n, b⟩ g = Rg.at_ (g.s.pc + 1) ⟨{ g2.s with lo := g2.s.lo.set n p }, g2.o⟩) := HP.out.trans (by rw [e0]; unfold Rg.putLo; rw [e1, Int.toNat_natCast]; rfl)
    clear HP ho e0 e1 e2 e3
    refine HC1.out.mono ?_
    rintro e w2 ⟨rfl, H1⟩
    obtain ⟨lq, lc, d0, d1, d2, d3, d4, d5, d6⟩ := H1.topLo HF.out HK.out (n := n) (by omega)
    obtain ⟨b0, b1, b2, b3⟩ := H1.bxs
    have d7 := (d6 p).get
    have H2 := hid (d6 p)
    clear d6 H1 HC1
    obtain ⟨⟨x, k1⟩, k2, k3⟩ := d7
    generalize g2.s.lo.getD n 0 = y at *
    generalize g2.s.lo.length = len at *
    go_wp2_with fail
    go_region
    all_goals
      go_wp2_with fail
      go_end0
      exact ⟨rfl, by rw [HP2.out]; first | exact H2.out.drew.setPc _ | exact H2.out.setPcD _⟩

set_option maxHeartbeats 800000 in
theorem gdo5 (B R : Nat) (mt : Int) (w0 : World) (F : Value) (L : List Value) (g : Rg.G) (a b : Int) (w : World) (h : Gch B R mt w0 (F, none) L w g) (hp : DoOk g ⟨5, a, b⟩) : GDoes B R mt w0 g ⟨5, a, b⟩ w := by
  obtain ⟨q, cap, k, hF, hk, hk24, hcap, hmax, hql, hRl, c0, c2, hpc0, hpc1, hw1, HB⟩ := h.start _ hp
  have HP : Hid (Rg.doI mt ⟨5, a, b⟩ g = Rg.at_ (g.s.pc + 1) (Rg.putDa a (Rg.pop g).1 (Rg.dat a (Rg.pop g).2))) := rfl
  have HC : Hid (∀ n, Calls Try.prog 26 #[.pointer (some ⟨R, 0, none⟩)] ((w.alloc (bxOf ⟨5, a, b⟩)).drewN n) (GEnd B R mt w0 (F, some (w.heap.size, bxOf ⟨5, a, b⟩)) L (.int .i64 (Rg.pop g).1) ((Rg.pop g).2))) := fun n => gpop_any _ _ _ _ _ _ _ _ (HB.out n)
  have HF := hid hF
  have HK : Hid ((Rg.pop g).2.s.gs.length = k) := by rw [pop_gs]; exact hk
  clear h hp hF hk HB
  generalize (Rg.pop g).1 = p at *
  generalize (Rg.pop g).2 = g2 at *
  unfold GDoes
  go_enter Try.func20, Try.ntmps20
  go_wp2_with fail
  go_quiet ((fail))
  go_wp2_with fail
  refine (HC.out _).mono ?_
  rintro e w1 ⟨rfl, H1⟩
  obtain ⟨b0, b1, b2, b3⟩ := H1.bxs
  have HC1 : Hid (Calls Try.prog 27 #[.pointer (some ⟨R, 0, none⟩), .int .i64 a] w1 (GEnd B R mt w0 (F, some (w.heap.size, bxOf ⟨5, a, b⟩)) L (.bool (!(Rg.dat a g2).o)) (Rg.dat a g2))) := gdatum_any _ _ _ _ _ _ _ _ _ H1
  clear H1 HC
  go_wp2_with fail
  cases ho : (Rg.dat a g2).o with
  | true =>
    have HP2 : Hid (Rg.doI mt ⟨5, a, b⟩ g = Rg.at_ (g.s.pc + 1) (Rg.dat a g2)) := HP.out.trans (by unfold Rg.putDa; rw [if_pos ho])
    rw [ho] at HC1
    clear HP ho
    refine HC1.out.mono ?_
    rintro e w1 ⟨rfl, H1⟩
    obtain ⟨⟨x, k1⟩, k2, k3⟩ := H1.get
    have H1 := hid H1
    go_wp2_with fail
    go_end0
    exact ⟨rfl, by rw [HP2.out]; exact H1.out.setPc _⟩
  | false =>
    obtain ⟨e0, e1, e2, e3⟩ := dat_no ho
    rw [ho, e0] at HC1
    obtain ⟨n, rfl⟩ := Int.eq_ofNat_of_zero_le e2
    have hn : n < g2.s.data.length := by omega
    have HP2 : Hid (Rg.doI mt ⟨5, n, b⟩ g = Rg.at_ (g.s.pc + 1) ⟨{ g2.s with data := g2.s.data.set n p }, g2.o⟩) := HP.out.trans (by rw [e0]; unfold Rg.putDa; rw [e1, Int.toNat_natCast]; rfl)
    clear HP ho e0 e1 e2 e3
    refine HC1.out.mono ?_
    rintro e w2 ⟨rfl, H1⟩
    obtain ⟨lq, lc, d0, d1, d2, d3, d4, d5, d6⟩ := H1.data (n := n) (by omega)
    obtain ⟨b0, b1, b2, b3⟩ := H1.bxs
    have d7 := (d6 p).get
    have H2 := hid (d6 p)
    clear d6 H1 HC1
    obtain ⟨⟨x, k1⟩, k2, k3⟩ := d7
    generalize g2.s.data.getD n 0 = y at *
    generalize g2.s.data.length = len at *
    go_wp2_with fail
    go_region
    all_goals
      go_wp2_with fail
      go_end0
      exact ⟨rfl, by rw [HP2.out]; first | exact H2.out.drew.setPc _ | exact H2.out.setPcD _⟩

end Go.Proofs.Ytljdoholcdhkhaa
