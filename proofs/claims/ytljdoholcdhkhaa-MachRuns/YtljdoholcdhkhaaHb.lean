/-
  The reference's machine does an instruction: what calls little.
-/
import Derived.Test.YtljdoholcdhkhaaHa
namespace Go.Proofs.Ytljdoholcdhkhaa
open Go.RowKit Go.Shelf
set_option maxRecDepth 100000

set_option maxHeartbeats 400000 in
theorem gdo16 (B R : Nat) (mt : Int) (w0 : World) (F : Value) (L : List Value) (g : Rg.G) (a b : Int) (w : World) (h : Gch B R mt w0 (F, none) L w g) (hp : DoOk g ⟨16, a, b⟩) : GDoes B R mt w0 g ⟨16, a, b⟩ w := by
  obtain ⟨q, cap, k, hF, hk, hk24, hcap, hmax, hql, hRl, c0, c2, hpc0, hpc1, hw1, HB⟩ := h.start _ hp
  have HP : Hid (Rg.doI mt ⟨16, a, b⟩ g = Rg.at_ (g.s.pc + 1) (Rg.tick mt g)) := rfl
  have HC : Hid (∀ n, Calls Try.prog 30 #[.pointer (some ⟨R, 0, none⟩)] ((w.alloc (bxOf ⟨16, a, b⟩)).drewN n) (GEnd B R mt w0 (F, some (w.heap.size, bxOf ⟨16, a, b⟩)) L (.tuple #[]) (Rg.tick mt g))) := fun n => gtick_any _ _ _ _ _ _ _ _ (HB.out n)
  clear h hp hF hk HB
  unfold GDoes
  go_enter Try.func20, Try.ntmps20
  go_wp2_with fail
  go_quiet ((fail))
  go_wp2_with fail
  refine (HC.out _).mono ?_
  rintro e w1 ⟨rfl, H1⟩
  obtain ⟨⟨x, k1⟩, k2, k3⟩ := H1.get
  have H1 := hid H1
  go_wp2_with fail
  go_end0
  exact ⟨rfl, by rw [HP.out]; exact H1.out.setPc _⟩

set_option maxHeartbeats 400000 in
theorem gdo17 (B R : Nat) (mt : Int) (w0 : World) (F : Value) (L : List Value) (g : Rg.G) (a b : Int) (w : World) (h : Gch B R mt w0 (F, none) L w g) (hp : DoOk g ⟨17, a, b⟩) : GDoes B R mt w0 g ⟨17, a, b⟩ w := by
  obtain ⟨q, cap, k, hF, hk, hk24, hcap, hmax, hql, hRl, c0, c2, hpc0, hpc1, hw1, HB⟩ := h.start _ hp
  have HP : Hid (Rg.doI mt ⟨17, a, b⟩ g = Rg.at_ (g.s.pc + 1) ((Rg.pop g).2)) := rfl
  have HC : Hid (∀ n, Calls Try.prog 26 #[.pointer (some ⟨R, 0, none⟩)] ((w.alloc (bxOf ⟨17, a, b⟩)).drewN n) (GEnd B R mt w0 (F, some (w.heap.size, bxOf ⟨17, a, b⟩)) L (.int .i64 (Rg.pop g).1) ((Rg.pop g).2))) := fun n => gpop_any _ _ _ _ _ _ _ _ (HB.out n)
  clear h hp hF hk HB
  unfold GDoes
  go_enter Try.func20, Try.ntmps20
  go_wp2_with fail
  go_quiet ((fail))
  go_wp2_with fail
  refine (HC.out _).mono ?_
  rintro e w1 ⟨rfl, H1⟩
  obtain ⟨⟨x, k1⟩, k2, k3⟩ := H1.get
  have H1 := hid H1
  go_wp2_with fail
  go_end0
  exact ⟨rfl, by rw [HP.out]; exact H1.out.setPc _⟩

set_option maxHeartbeats 400000 in
theorem gdo20 (B R : Nat) (mt : Int) (w0 : World) (F : Value) (L : List Value) (g : Rg.G) (a b : Int) (w : World) (h : Gch B R mt w0 (F, none) L w g) (hp : DoOk g ⟨20, a, b⟩) : GDoes B R mt w0 g ⟨20, a, b⟩ w := by
  obtain ⟨q, cap, k, hF, hk, hk24, hcap, hmax, hql, hRl, c0, c2, hpc0, hpc1, hw1, HB⟩ := h.start _ hp
  have HP : Hid (Rg.doI mt ⟨20, a, b⟩ g = Rg.at_ (g.s.pc + 1) (Rg.stop 0 g)) := rfl
  have HC : Hid (∀ n, Calls Try.prog 19 #[.pointer (some ⟨R, 0, none⟩), .int .i64 0] ((w.alloc (bxOf ⟨20, a, b⟩)).drewN n) (GEnd B R mt w0 (F, some (w.heap.size, bxOf ⟨20, a, b⟩)) L (.tuple #[]) (Rg.stop 0 g))) := fun n => gstop_any _ _ _ _ _ _ _ _ _ (HB.out n)
  clear h hp hF hk HB
  unfold GDoes
  go_enter Try.func20, Try.ntmps20
  go_wp2_with fail
  go_quiet ((fail))
  go_wp2_with fail
  refine (HC.out _).mono ?_
  rintro e w1 ⟨rfl, H1⟩
  obtain ⟨⟨x, k1⟩, k2, k3⟩ := H1.get
  have H1 := hid H1
  go_wp2_with fail
  go_end0
  exact ⟨rfl, by rw [HP.out]; exact H1.out.setPc _⟩

set_option maxHeartbeats 400000 in
theorem gdo11 (B R : Nat) (mt : Int) (w0 : World) (F : Value) (L : List Value) (g : Rg.G) (a b : Int) (w : World) (h : Gch B R mt w0 (F, none) L w g) (hp : DoOk g ⟨11, a, b⟩) : GDoes B R mt w0 g ⟨11, a, b⟩ w := by
  obtain ⟨q, cap, k, hF, hk, hk24, hcap, hmax, hql, hRl, c0, c2, hpc0, hpc1, hw1, HB⟩ := h.start _ hp
  have HP : Hid (Rg.doI mt ⟨11, a, b⟩ g = Rg.at_ a g) := rfl
  have f0 := h.get.2.1
  clear h hp hF hk
  unfold GDoes
  go_enter Try.func20, Try.ntmps20
  go_wp2_with fail
  go_quiet ((fail))
  go_wp2_with fail
  go_end0
  exact ⟨rfl, by rw [HP.out]; exact (HB.out _).setPc _⟩

set_option maxHeartbeats 400000 in
theorem gdo21 (B R : Nat) (mt : Int) (w0 : World) (F : Value) (L : List Value) (g : Rg.G) (a b : Int) (w : World) (h : Gch B R mt w0 (F, none) L w g) (hp : DoOk g ⟨21, a, b⟩) : GDoes B R mt w0 g ⟨21, a, b⟩ w := by
  obtain ⟨q, cap, k, hF, hk, hk24, hcap, hmax, hql, hRl, c0, c2, hpc0, hpc1, hw1, HB⟩ := h.start _ hp
  have HP : Hid (Rg.doI mt ⟨21, a, b⟩ g = Rg.at_ (g.s.pc + 1) g) := rfl
  have f0 := h.get.2.1
  clear h hp hF hk
  unfold GDoes
  go_enter Try.func20, Try.ntmps20
  go_wp2_with fail
  go_quiet ((fail))
  go_wp2_with fail
  go_end0
  exact ⟨rfl, by rw [HP.out]; exact (HB.out _).setPc _⟩

set_option maxHeartbeats 400000 in
theorem gdo12 (B R : Nat) (mt : Int) (w0 : World) (F : Value) (L : List Value) (g : Rg.G) (a b : Int) (w : World) (h : Gch B R mt w0 (F, none) L w g) (hp : DoOk g ⟨12, a, b⟩) : GDoes B R mt w0 g ⟨12, a, b⟩ w := by
  obtain ⟨q, cap, k, hF, hk, hk24, hcap, hmax, hql, hRl, c0, c2, hpc0, hpc1, hw1, HB⟩ := h.start _ hp
  have HP : Hid (Rg.doI mt ⟨12, a, b⟩ g = Rg.at_ (if (Rg.pop g).1 = 0 then a else g.s.pc + 1) (Rg.pop g).2) := rfl
  have HC : Hid (∀ n, Calls Try.prog 26 #[.pointer (some ⟨R, 0, none⟩)] ((w.alloc (bxOf ⟨12, a, b⟩)).drewN n) (GEnd B R mt w0 (F, some (w.heap.size, bxOf ⟨12, a, b⟩)) L (.int .i64 (Rg.pop g).1) ((Rg.pop g).2))) := fun n => gpop_any _ _ _ _ _ _ _ _ (HB.out n)
  clear h hp hF hk HB
  generalize (Rg.pop g).1 = p at *
  generalize (Rg.pop g).2 = g2 at *
  unfold GDoes
  go_enter Try.func20, Try.ntmps20
  go_wp2_with fail
  go_quiet ((fail))
  go_wp2_with fail
  refine (HC.out _).mono ?_
  rintro e w1 ⟨rfl, H1⟩
  obtain ⟨⟨x, k1⟩, k2, k3⟩ := H1.get
  obtain ⟨b0, b1, b2, b3⟩ := H1.bxs
  have H1 := hid H1
  clear HC
  by_cases hp0 : p = 0
  · have HP2 : Hid (Rg.doI mt ⟨12, a, b⟩ g = Rg.at_ a g2) := HP.out.trans (by rw [if_pos hp0])
    have hpb : (p == 0) = true := beq_iff_eq.2 hp0
    clear hp0 HP
    go_wp2_with fail
    go_end0
    exact ⟨rfl, by rw [HP2.out]; exact H1.out.setPc _⟩
  · have HP2 : Hid (Rg.doI mt ⟨12, a, b⟩ g = Rg.at_ (g.s.pc + 1) g2) := HP.out.trans (by rw [if_neg hp0])
    have hpb : (p == 0) = false := beq_eq_false_iff_ne.2 hp0
    clear hp0 HP
    go_wp2_with fail
    go_end0
    exact ⟨rfl, by rw [HP2.out]; exact H1.out.setPc _⟩

set_option maxHeartbeats 400000 in
theorem gdo9 (B R : Nat) (mt : Int) (w0 : World) (F : Value) (L : List Value) (g : Rg.G) (a b : Int) (w : World) (h : Gch B R mt w0 (F, none) L w g) (hp : DoOk g ⟨9, a, b⟩) : GDoes B R mt w0 g ⟨9, a, b⟩ w := by
  obtain ⟨q, cap, k, hF, hk, hk24, hcap, hmax, hql, hRl, c0, c2, hpc0, hpc1, hw1, HB⟩ := h.start _ hp
  have HP : Hid (Rg.doI mt ⟨9, a, b⟩ g = Rg.at_ (g.s.pc + 1) (Rg.push (Mc.truth ((Rg.pop g).1 == 0)) (Rg.pop g).2)) := rfl
  have HC : Hid (∀ n, Calls Try.prog 26 #[.pointer (some ⟨R, 0, none⟩)] ((w.alloc (bxOf ⟨9, a, b⟩)).drewN n) (GEnd B R mt w0 (F, some (w.heap.size, bxOf ⟨9, a, b⟩)) L (.int .i64 (Rg.pop g).1) ((Rg.pop g).2))) := fun n => gpop_any _ _ _ _ _ _ _ _ (HB.out n)
  clear h hp hF hk HB
  generalize (Rg.pop g).1 = p at *
  generalize (Rg.pop g).2 = g2 at *
  unfold GDoes
  go_enter Try.func20, Try.ntmps20
  go_wp2_with fail
  go_quiet ((fail))
  go_wp2_with fail
  refine (HC.out _).mono ?_
  rintro e w1 ⟨rfl, H1⟩
  have H1 := hid H1
  clear HC
  go_wp2_with (go_at_call 28; refine (gtruth_any _ _).mono ?_; rintro e w' ⟨rfl, rfl⟩)
  refine (gpush_any _ _ _ _ _ _ _ _ _ H1.out).mono ?_
  clear H1
  rintro e w1 ⟨rfl, H1⟩
  obtain ⟨⟨x, k1⟩, k2, k3⟩ := H1.get
  have H1 := hid H1
  go_wp2_with fail
  go_end0
  exact ⟨rfl, by rw [HP.out]; exact H1.out.setPc _⟩

set_option maxHeartbeats 400000 in
theorem gdo22 (B R : Nat) (mt : Int) (w0 : World) (F : Value) (L : List Value) (g : Rg.G) (a b : Int) (w : World) (h : Gch B R mt w0 (F, none) L w g) (hp : DoOk g ⟨22, a, b⟩) : GDoes B R mt w0 g ⟨22, a, b⟩ w := by
  obtain ⟨q, cap, k, hF, hk, hk24, hcap, hmax, hql, hRl, c0, c2, hpc0, hpc1, hw1, HB⟩ := h.start _ hp
  have HP : Hid (Rg.doI mt ⟨22, a, b⟩ g = Rg.at_ (g.s.pc + 1) (Rg.push (Mc.truth ((Rg.pop g).1 != 0)) (Rg.pop g).2)) := rfl
  have HC : Hid (∀ n, Calls Try.prog 26 #[.pointer (some ⟨R, 0, none⟩)] ((w.alloc (bxOf ⟨22, a, b⟩)).drewN n) (GEnd B R mt w0 (F, some (w.heap.size, bxOf ⟨22, a, b⟩)) L (.int .i64 (Rg.pop g).1) ((Rg.pop g).2))) := fun n => gpop_any _ _ _ _ _ _ _ _ (HB.out n)
  clear h hp hF hk HB
  generalize (Rg.pop g).1 = p at *
  generalize (Rg.pop g).2 = g2 at *
  unfold GDoes
  go_enter Try.func20, Try.ntmps20
  go_wp2_with fail
  go_quiet ((fail))
  go_wp2_with fail
  refine (HC.out _).mono ?_
  rintro e w1 ⟨rfl, H1⟩
  have H1 := hid H1
  clear HC
  go_wp2_with (go_at_call 28; refine (gtruth_any _ _).mono ?_; rintro e w' ⟨rfl, rfl⟩)
  refine (gpush_any _ _ _ _ _ _ _ _ _ H1.out).mono ?_
  clear H1
  rintro e w1 ⟨rfl, H1⟩
  obtain ⟨⟨x, k1⟩, k2, k3⟩ := H1.get
  have H1 := hid H1
  go_wp2_with fail
  go_end0
  exact ⟨rfl, by rw [HP.out]; exact H1.out.setPc _⟩

set_option maxHeartbeats 400000 in
theorem gdo6 (B R : Nat) (mt : Int) (w0 : World) (F : Value) (L : List Value) (g : Rg.G) (a b : Int) (w : World) (h : Gch B R mt w0 (F, none) L w g) (hp : DoOk g ⟨6, a, b⟩) : GDoes B R mt w0 g ⟨6, a, b⟩ w := by
  obtain ⟨q, cap, k, hF, hk, hk24, hcap, hmax, hql, hRl, c0, c2, hpc0, hpc1, hw1, HB⟩ := h.start _ hp
  have HP : Hid (Rg.doI mt ⟨6, a, b⟩ g = Rg.at_ (g.s.pc + 1) (Rg.push (wrap64 (a + (Rg.pop g).1)) (Rg.outside (Rg.pop g).1 b (Rg.pop g).2))) := rfl
  have HC : Hid (∀ n, Calls Try.prog 26 #[.pointer (some ⟨R, 0, none⟩)] ((w.alloc (bxOf ⟨6, a, b⟩)).drewN n) (GEnd B R mt w0 (F, some (w.heap.size, bxOf ⟨6, a, b⟩)) L (.int .i64 (Rg.pop g).1) ((Rg.pop g).2))) := fun n => gpop_any _ _ _ _ _ _ _ _ (HB.out n)
  clear h hp hF hk HB
  generalize (Rg.pop g).1 = p at *
  generalize (Rg.pop g).2 = g2 at *
  unfold GDoes
  go_enter Try.func20, Try.ntmps20
  go_wp2_with fail
  go_quiet ((fail))
  go_wp2_with fail
  refine (HC.out _).mono ?_
  rintro e w1 ⟨rfl, H1⟩
  obtain ⟨b0, b1, b2, b3⟩ := H1.bxs
  have H1 := hid H1
  clear HC
  by_cases hc : p < 0 ∨ b ≤ p
  · have HP2 : Hid (Rg.doI mt ⟨6, a, b⟩ g = Rg.at_ (g.s.pc + 1) (Rg.push (wrap64 (a + p)) (Rg.stop 2 g2))) := HP.out.trans (by unfold Rg.outside; rw [if_pos hc])
    have hc' : p < 0 ∨ 0 ≤ p ∧ b ≤ p := by omega
    clear hc HP
    rcases hc' with h0 | ⟨h0, h1⟩
    all_goals
      go_wp2_with fail
      refine (gstop_any _ _ _ _ _ _ _ _ _ H1.out).mono ?_
      rintro e w2 ⟨rfl, H2⟩
      obtain ⟨b0, b1, b2, b3⟩ := H2.bxs
      have H2 := hid H2
      go_wp2_with fail
      refine (gpush_any _ _ _ _ _ _ _ _ _ H2.out).mono ?_
      rintro e w3 ⟨rfl, H3⟩
      obtain ⟨⟨x, k1⟩, k2, k3⟩ := H3.get
      have H3 := hid H3
      go_wp2_with fail
      go_end0
      exact ⟨rfl, by rw [HP2.out]; exact H3.out.setPc _⟩
  · have HP2 : Hid (Rg.doI mt ⟨6, a, b⟩ g = Rg.at_ (g.s.pc + 1) (Rg.push (wrap64 (a + p)) g2)) := HP.out.trans (by unfold Rg.outside; rw [if_neg hc])
    have h0 : 0 ≤ p := by omega
    have h1 : p < b := by omega
    clear hc HP
    go_wp2_with fail
    refine (gpush_any _ _ _ _ _ _ _ _ _ H1.out).mono ?_
    rintro e w3 ⟨rfl, H3⟩
    obtain ⟨⟨x, k1⟩, k2, k3⟩ := H3.get
    have H3 := hid H3
    go_wp2_with fail
    go_end0
    exact ⟨rfl, by rw [HP2.out]; exact H3.out.setPc _⟩

end Go.Proofs.Ytljdoholcdhkhaa
