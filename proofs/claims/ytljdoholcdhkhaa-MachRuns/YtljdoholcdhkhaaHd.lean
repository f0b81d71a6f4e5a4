/-
  The reference's machine does an instruction: fetch, store, the reckoning, return.
-/
import Derived.Test.YtljdoholcdhkhaaHa
namespace Go.Proofs.Ytljdoholcdhkhaa
open Go.RowKit Go.Shelf
set_option maxRecDepth 100000

set_option maxHeartbeats 800000 in
theorem gdo7 (B R : Nat) (mt : Int) (w0 : World) (F : Value) (L : List Value) (g : Rg.G) (a b : Int) (w : World) (h : Gch B R mt w0 (F, none) L w g) (hp : DoOk g ⟨7, a, b⟩) : GDoes B R mt w0 g ⟨7, a, b⟩ w := by
  obtain ⟨q, cap, k, hF, hk, hk24, hcap, hmax, hql, hRl, c0, c2, hpc0, hpc1, hw1, HB⟩ := h.start _ hp
  have HP : Hid (Rg.doI mt ⟨7, a, b⟩ g = Rg.at_ (g.s.pc + 1) (Rg.pushDa (Rg.pop g).1 (Rg.dat (Rg.pop g).1 (Rg.pop g).2))) := rfl
  have HC : Hid (∀ n, Calls Try.prog 26 #[.pointer (some ⟨R, 0, none⟩)] ((w.alloc (bxOf ⟨7, a, b⟩)).drewN n) (GEnd B R mt w0 (F, some (w.heap.size, bxOf ⟨7, a, b⟩)) L (.int .i64 (Rg.pop g).1) ((Rg.pop g).2))) := fun n => gpop_any _ _ _ _ _ _ _ _ (HB.out n)
  clear h hp hF hk HB
  generalize (Rg.pop g).1 = p at *
  generalize (Rg.pop g).2 = g2 at *
  unfold GDoes
  go_enter Try.func20, Try.ntmps20
  go_wp2_with fail
  go_quiet ((fail))
  go_wp2_with fail
  refine (HC.out _).mono ?_
  rintro e w1 ⟨rfl, H1⟩
  have HC1 : Hid (Calls Try.prog 27 #[.pointer (some ⟨R, 0, none⟩), .int .i64 p] w1 (GEnd B R mt w0 (F, some (w.heap.size, bxOf ⟨7, a, b⟩)) L (.bool (!(Rg.dat p g2).o)) (Rg.dat p g2))) := gdatum_any _ _ _ _ _ _ _ _ _ H1
  clear H1 HC
  go_wp2_with fail
  cases ho : (Rg.dat p g2).o with
  | true =>
    have HP2 : Hid (Rg.doI mt ⟨7, a, b⟩ g = Rg.at_ (g.s.pc + 1) (Rg.dat p g2)) := HP.out.trans (by unfold Rg.pushDa; rw [if_pos ho])
    rw [ho] at HC1
    clear HP ho
    refine HC1.out.mono ?_
    rintro e w1 ⟨rfl, H1⟩
    obtain ⟨⟨x, k1⟩, k2, k3⟩ := H1.get
    have H1 := hid H1
    go_wp2_with fail
    go_end0
    exact ⟨rfl, by rw [HP2.out]; exact H1.out.setPc _⟩
  | false =>
    obtain ⟨e0, e1, e2, e3⟩ := dat_no ho
    rw [ho, e0] at HC1
    obtain ⟨n, rfl⟩ := Int.eq_ofNat_of_zero_le e2
    have hn : n < g2.s.data.length := by omega
    have HP2 : Hid (Rg.doI mt ⟨7, a, b⟩ g = Rg.at_ (g.s.pc + 1) (Rg.push (g2.s.data.getD n 0) g2)) := HP.out.trans (by rw [e0]; unfold Rg.pushDa; rw [e1, Int.toNat_natCast]; rfl)
    clear HP ho e0 e1 e2 e3
    refine HC1.out.mono ?_
    rintro e w2 ⟨rfl, H1⟩
    obtain ⟨lq, lc, d0, d1, d2, d3, d4, d5, -⟩ := H1.data (n := n) (by omega)
    have HC2 : Hid (Calls Try.prog 24 #[.pointer (some ⟨R, 0, none⟩), .int .i64 (g2.s.data.getD n 0)] w2 (GEnd B R mt w0 (F, some (w.heap.size, bxOf ⟨7, a, b⟩)) L (.tuple #[]) (Rg.push (g2.s.data.getD n 0) g2))) := gpush_any _ _ _ _ _ _ _ _ _ H1
    clear H1 HC1
    generalize g2.s.data.getD n 0 = y at *
    generalize g2.s.data.length = len at *
    go_wp2_with fail
    refine HC2.out.mono ?_
    rintro e w3 ⟨rfl, H1⟩
    obtain ⟨⟨x, k1⟩, k2, k3⟩ := H1.get
    have H1 := hid H1
    go_wp2_with fail
    go_end0
    exact ⟨rfl, by rw [HP2.out]; exact H1.out.setPc _⟩

set_option maxHeartbeats 800000 in
theorem gdo8 (B R : Nat) (mt : Int) (w0 : World) (F : Value) (L : List Value) (g : Rg.G) (a b : Int) (w : World) (h : Gch B R mt w0 (F, none) L w g) (hp : DoOk g ⟨8, a, b⟩) : GDoes B R mt w0 g ⟨8, a, b⟩ w := by
  obtain ⟨q, cap, k, hF, hk, hk24, hcap, hmax, hql, hRl, c0, c2, hpc0, hpc1, hw1, HB⟩ := h.start _ hp
  have HP : Hid (Rg.doI mt ⟨8, a, b⟩ g = Rg.at_ (g.s.pc + 1) (Rg.putDa (Rg.pop (Rg.pop g).2).1 (Rg.pop g).1 (Rg.dat (Rg.pop (Rg.pop g).2).1 (Rg.pop (Rg.pop g).2).2))) := rfl
  have HC : Hid (∀ n, Calls Try.prog 26 #[.pointer (some ⟨R, 0, none⟩)] ((w.alloc (bxOf ⟨8, a, b⟩)).drewN n) (GEnd B R mt w0 (F, some (w.heap.size, bxOf ⟨8, a, b⟩)) L (.int .i64 (Rg.pop g).1) ((Rg.pop g).2))) := fun n => gpop_any _ _ _ _ _ _ _ _ (HB.out n)
  clear h hp hF hk HB
  generalize (Rg.pop g).1 = p at *
  generalize (Rg.pop g).2 = g2 at *
  unfold GDoes
  go_enter Try.func20, Try.ntmps20
  go_wp2_with fail
  go_quiet ((fail))
  go_wp2_with fail
  refine (HC.out _).mono ?_
  rintro e w1 ⟨rfl, H1⟩
  have HC1 : Hid (Calls Try.prog 26 #[.pointer (some ⟨R, 0, none⟩)] w1 (GEnd B R mt w0 (F, some (w.heap.size, bxOf ⟨8, a, b⟩)) L (.int .i64 (Rg.pop g2).1) (Rg.pop g2).2)) := gpop_any _ _ _ _ _ _ _ _ H1
  clear H1 HC
  generalize (Rg.pop g2).1 = r at *
  generalize (Rg.pop g2).2 = g3 at *
  go_wp2_with fail
  refine HC1.out.mono ?_
  rintro e w2 ⟨rfl, H1⟩
  have HC2 : Hid (Calls Try.prog 27 #[.pointer (some ⟨R, 0, none⟩), .int .i64 r] w2 (GEnd B R mt w0 (F, some (w.heap.size, bxOf ⟨8, a, b⟩)) L (.bool (!(Rg.dat r g3).o)) (Rg.dat r g3))) := gdatum_any _ _ _ _ _ _ _ _ _ H1
  clear H1 HC1
  go_wp2_with fail
  cases ho : (Rg.dat r g3).o with
  | true =>
    have HP2 : Hid (Rg.doI mt ⟨8, a, b⟩ g = Rg.at_ (g.s.pc + 1) (Rg.dat r g3)) := HP.out.trans (by unfold Rg.putDa; rw [if_pos ho])
    rw [ho] at HC2
    clear HP ho
    refine HC2.out.mono ?_
    rintro e w1 ⟨rfl, H1⟩
    obtain ⟨⟨x, k1⟩, k2, k3⟩ := H1.get
    have H1 := hid H1
    go_wp2_with fail
    go_end0
    exact ⟨rfl, by rw [HP2.out]; exact H1.out.setPc _⟩
  | false =>
    obtain ⟨e0, e1, e2, e3⟩ := dat_no ho
    rw [ho, e0] at HC2
    obtain ⟨n, rfl⟩ := Int.eq_ofNat_of_zero_le e2
    have hn : n < g3.s.data.length := by omega
    have HP2 : Hid (Rg.doI mt ⟨8, a, b⟩ g = Rg.at_ (g.s.pc + 1) ⟨{ g3.s with data := g3.s.data.set n p }, g3.o⟩) := HP.out.trans (by rw [e0]; unfold Rg.putDa; rw [e1, Int.toNat_natCast]; rfl)
    clear HP ho e0 e1 e2 e3
    refine HC2.out.mono ?_
    rintro e w3 ⟨rfl, H1⟩
    obtain ⟨lq, lc, d0, d1, d2, d3, d4, d5, d6⟩ := H1.data (n := n) (by omega)
    have d7 := (d6 p).get
    have H2 := hid (d6 p)
    clear d6 H1 HC2
    obtain ⟨⟨x, k1⟩, k2, k3⟩ := d7
    generalize g3.s.data.getD n 0 = y at *
    generalize g3.s.data.length = len at *
    go_wp2_with fail
    go_end0
    exact ⟨rfl, by rw [HP2.out]; exact H2.out.setPc _⟩

theorem isOp_in (a : Int) : inB a 9 15 = Mc.isOp a := rfl
theorem pop_over {g : Rg.G} (h : g.o = true) : (Rg.pop g).2.o = true := by
  unfold Rg.pop; split
  · exact h
  · exact stop_over 6 g

set_option maxHeartbeats 800000 in
theorem gdo10 (B R : Nat) (mt : Int) (w0 : World) (F : Value) (L : List Value) (g : Rg.G) (a b : Int) (w : World) (h : Gch B R mt w0 (F, none) L w g) (hp : DoOk g ⟨10, a, b⟩) : GDoes B R mt w0 g ⟨10, a, b⟩ w := by
  obtain ⟨q, cap, k, hF, hk, hk24, hcap, hmax, hql, hRl, c0, c2, hpc0, hpc1, hw1, HB⟩ := h.start _ hp
  have HP : Hid (Rg.doI mt ⟨10, a, b⟩ g = if (Rg.pop (Rg.pop (Rg.isMath a g)).2).2.o then (Rg.pop (Rg.pop (Rg.isMath a g)).2).2 else Rg.at_ (g.s.pc + 1) (Rg.mathed a (Rg.pop (Rg.pop (Rg.isMath a g)).2).1 (Rg.pop (Rg.isMath a g)).1 (Rg.pop (Rg.pop (Rg.isMath a g)).2).2)) := rfl
  clear h hp hF hk
  cases hop : Mc.isOp a with
  | false =>
    have HI : Hid (inB a 9 15 = false) := (isOp_in a).trans hop
    have hm : Rg.isMath a g = Rg.stop 6 g := if_neg (by rw [hop]; decide)
    rw [hm] at HP
    have ho : (Rg.pop (Rg.pop (Rg.stop 6 g)).2).2.o = true := pop_over (pop_over (stop_over 6 g))
    have HP2 : Hid (Rg.doI mt ⟨10, a, b⟩ g = (Rg.pop (Rg.pop (Rg.stop 6 g)).2).2) := HP.out.trans (if_pos ho)
    have HO := hid ho
    clear HP hop hm ho
    unfold GDoes
    go_enter Try.func20, Try.ntmps20
    go_wp2_with fail
    go_quiet ((fail))
    go_wp2_with fail
    refine (within_any false _ _ _ _ HI.out).mono ?_
    rintro e w' ⟨rfl, rfl⟩
    go_wp2_with fail
    refine (gstop_any _ _ _ _ _ _ _ _ _ (HB.out _)).mono ?_
    rintro e w1 ⟨rfl, H1⟩
    have H1 := hid H1
    go_wp2_with fail
    refine (gpop_any _ _ _ _ _ _ _ _ H1.out).mono ?_
    rintro e w2 ⟨rfl, H2⟩
    have H2 := hid H2
    go_wp2_with fail
    refine (gpop_any _ _ _ _ _ _ _ _ H2.out).mono ?_
    rintro e w3 ⟨rfl, H3⟩
    have k9 := H3.over
    rw [HO.out] at k9
    have H3 := hid H3
    go_wp2_with fail
    go_returns
    exact ⟨rfl, by rw [HP2.out]; exact ⟨_, _, H3.out.unbox⟩⟩
  | true =>
    have HI : Hid (inB a 9 15 = true) := (isOp_in a).trans hop
    have hm : Rg.isMath a g = g := if_pos hop
    rw [hm] at HP
    have HOp := hid hop
    clear hm hop
    unfold GDoes
    go_enter Try.func20, Try.ntmps20
    go_wp2_with fail
    go_quiet ((fail))
    go_wp2_with fail
    refine (within_any true _ _ _ _ HI.out).mono ?_
    rintro e w' ⟨rfl, rfl⟩
    go_wp2_with fail
    refine (gpop_any _ _ _ _ _ _ _ _ (HB.out _)).mono ?_
    rintro e w1 ⟨rfl, H1⟩
    have H1 := hid H1
    generalize (Rg.pop g).1 = p1 at *
    generalize (Rg.pop g).2 = g2 at *
    go_wp2_with fail
    refine (gpop_any _ _ _ _ _ _ _ _ H1.out).mono ?_
    rintro e w2 ⟨rfl, H2⟩
    generalize (Rg.pop g2).1 = p2 at *
    generalize (Rg.pop g2).2 = g3 at *
    have k9 := H2.over
    obtain ⟨b0, b1, b2, b3⟩ := H2.bxs
    have H2 := hid H2
    clear H1
    cases ho : g3.o with
    | true =>
      have HP2 : Hid (Rg.doI mt ⟨10, a, b⟩ g = g3) := HP.out.trans (if_pos ho)
      rw [ho] at k9
      clear HP ho
      go_wp2_with fail
      go_returns
      exact ⟨rfl, by rw [HP2.out]; exact ⟨_, _, H2.out.unbox⟩⟩
    | false =>
      have HP1 : Hid (Rg.doI mt ⟨10, a, b⟩ g = Rg.at_ (g.s.pc + 1) (Rg.mathed a p2 p1 g3)) := HP.out.trans (if_neg (by rw [ho]; decide))
      rw [ho] at k9
      clear HP ho
      go_wp2_with fail
      refine (gmath_any _ _ _ _ HOp.out).mono ?_
      rintro e w' ⟨rfl, rfl⟩
      cases hr : Mc.reck a p2 p1 with
      | none =>
        have HP2 : Hid (Rg.doI mt ⟨10, a, b⟩ g = Rg.at_ (g.s.pc + 1) (Rg.push 0 (Rg.stop 1 g3))) := HP1.out.trans (by unfold Rg.mathed; rw [hr])
        clear hr HP1
        simp only [reckV]
        go_wp2_with fail
        refine (gstop_any _ _ _ _ _ _ _ _ _ H2.out).mono ?_
        rintro e w3 ⟨rfl, H3⟩
        have H3 := hid H3
        go_wp2_with fail
        refine (gpush_any _ _ _ _ _ _ _ _ _ H3.out).mono ?_
        rintro e w4 ⟨rfl, H1⟩
        obtain ⟨⟨x, k1⟩, k2, k3⟩ := H1.get
        have H1 := hid H1
        go_wp2_with fail
        go_end0
        exact ⟨rfl, by rw [HP2.out]; exact H1.out.setPc _⟩
      | some n =>
        have HP2 : Hid (Rg.doI mt ⟨10, a, b⟩ g = Rg.at_ (g.s.pc + 1) (Rg.push n g3)) := HP1.out.trans (by unfold Rg.mathed; rw [hr])
        clear hr HP1
        simp only [reckV]
        go_wp2_with fail
        refine (gpush_any _ _ _ _ _ _ _ _ _ H2.out).mono ?_
        rintro e w4 ⟨rfl, H1⟩
        obtain ⟨⟨x, k1⟩, k2, k3⟩ := H1.get
        have H1 := hid H1
        go_wp2_with fail
        go_end0
        exact ⟨rfl, by rw [HP2.out]; exact H1.out.setPc _⟩

end Go.Proofs.Ytljdoholcdhkhaa
