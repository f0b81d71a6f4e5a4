/-
  The reference's machine does an instruction: enter and return.
-/
import Derived.Test.YtljdoholcdhkhaaHa
import Derived.Test.YtljdoholcdhkhaaGy
namespace Go.Proofs.Ytljdoholcdhkhaa
open Go.RowKit Go.Shelf
set_option maxRecDepth 100000

set_option maxHeartbeats 800000 in
theorem gdo14 (B R : Nat) (mt : Int) (w0 : World) (F : Value) (L : List Value) (g : Rg.G) (a b : Int) (w : World) (h : Gch B R mt w0 (F, none) L w g) (hp : DoOk g ⟨14, a, b⟩) : GDoes B R mt w0 g ⟨14, a, b⟩ w := by
  obtain ⟨q, cap, k, hF, hk, hk24, hcap, hmax, hql, hRl, c0, c2, hpc0, hpc1, hw1, HB⟩ := h.start _ hp
  have HP : Hid (Rg.doI mt ⟨14, a, b⟩ g = Rg.at_ (g.s.pc + 1) (Rg.enter a b g)) := rfl
  have hX : (F, some (w.heap.size, bxOf ⟨14, a, b⟩)).1 = .slice (some ⟨q, 0, none⟩) (k + 1) cap := hF
  have HC : Hid (∀ n, Calls Try.prog 31 #[.pointer (some ⟨R, 0, none⟩), .pointer (some ⟨q, k * 2, none⟩), .int .i64 a, .int .i64 b] ((w.alloc (bxOf ⟨14, a, b⟩)).drewN n) fun e w' => e = .returned (.tuple #[]) ∧ ∃ L', Gch B R mt w0 (F, some (w.heap.size, bxOf ⟨14, a, b⟩)) L' w' (Rg.enter a b g)) := fun n => by
    by_cases c : a < 0 ∨ b < 0 ∨ 2048 < a ∨ 2048 < b ∨ 2048 < a + b ∨ (g.s.stack.length : Int) < a
    · have e : Rg.enter a b g = Rg.stop 6 g := if_pos c
      rw [e]
      exact (genter_no B R mt w0 _ L g _ a b _ (HB.out n) c).mono fun _ _ h => ⟨h.1, L, h.2⟩
    · have e : Rg.enter a b g = ⟨{ g.s with lo := g.s.stack.drop (g.s.stack.length - a.toNat) ++ List.replicate b.toNat 0, stack := g.s.stack.take (g.s.stack.length - a.toNat) }, g.o⟩ := if_neg c
      rw [e]
      obtain ⟨ka, rfl⟩ := Int.eq_ofNat_of_zero_le (a := a) (by omega)
      obtain ⟨kb, rfl⟩ := Int.eq_ofNat_of_zero_le (a := b) (by omega)
      exact genter_ok B R mt w0 _ L g q k (k * 2) cap ka kb _ (HB.out n) hX hk (Nat.mul_comm _ _) (by omega) (by omega)
  clear h hp hF hk HB hX
  unfold GDoes
  go_enter Try.func20, Try.ntmps20
  go_wp2_with fail
  go_quiet ((fail))
  go_wp2_with fail
  refine (HC.out _).mono ?_
  rintro e w1 ⟨rfl, L1, H1⟩
  obtain ⟨⟨x, k1⟩, k2, k3⟩ := H1.get
  have H1 := hid H1
  go_wp2_with fail
  go_end0
  exact ⟨rfl, by rw [HP.out]; exact H1.out.setPc _⟩

theorem Gch.frames {B R : Nat} {mt : Int} {w0 w : World} {g : Rg.G} {F : Value} {X : Option (Nat × Obj)} {L : List Value} {q k cap : Nat} (h : Gch B R mt w0 (F, X) L w g) (hF : F = .slice (some ⟨q, 0, none⟩) (k + 1) cap) (hk : g.s.gs.length = k) :
    w.cell? ⟨q, k * 2 + 1, none⟩ = some (.int .i64 g.s.bk) ∧ w.frozen? ⟨R, 2, none⟩ = false ∧ ∀ hs f, g.s.gs = hs ++ [f] → ∃ F' L', Gch B R mt w0 (F', X) L' (w.setCell ⟨R, 2, none⟩ (.slice (some ⟨q, 0, none⟩) k cap)) ⟨{ g.s with gs := hs, lo := f.1, bk := f.2 }, g.o⟩ := by
  obtain ⟨T, v, h, hX, hL⟩ := h
  obtain ⟨q', cap', ta, lc, hv, _, _, _, hql, _, _, _, t1, _, _⟩ := h.top
  have e := hX.1.symm.trans hv
  simp only at e
  rw [hF] at e
  simp only [Value.slice.injEq, Option.some.injEq, Addr.mk.injEq] at e
  obtain ⟨⟨rfl, -, -⟩, -, rfl⟩ := e
  subst hk
  refine ⟨by rw [Nat.mul_comm]; exact t1, h.cell.2.2.2.2.2.2.2.2.2.2 2, fun hs f hg => ⟨_, _, _, _, h.lessFr hg hv, ⟨rfl, hX.2⟩, rfl⟩⟩

set_option maxHeartbeats 800000 in
theorem gdo15 (B R : Nat) (mt : Int) (w0 : World) (F : Value) (L : List Value) (g : Rg.G) (a b : Int) (w : World) (h : Gch B R mt w0 (F, none) L w g) (hp : DoOk g ⟨15, a, b⟩) : GDoes B R mt w0 g ⟨15, a, b⟩ w := by
  obtain ⟨q, cap, k, hF, hk, hk24, hcap, hmax, hql, hRl, c0, c2, hpc0, hpc1, hw1, HB⟩ := h.start _ hp
  obtain ⟨t1, f2, HL⟩ := h.frames hF hk
  have f0 := h.get.2.1
  have HL := hid HL
  have HP : Hid (Rg.doI mt ⟨15, a, b⟩ g = match g.s.gs.getLast? with
    | none => Rg.stop 6 g
    | some f => Rg.at_ g.s.bk ⟨{ g.s with gs := g.s.gs.dropLast, lo := f.1, bk := f.2 }, g.o⟩) := rfl
  have HFr := hid (fun n => (HB.out n).frames hF hk)
  have HC : Hid (∀ n, Calls Try.prog 19 #[.pointer (some ⟨R, 0, none⟩), .int .i64 6] ((w.alloc (bxOf ⟨15, a, b⟩)).drewN n) (GEnd B R mt w0 (F, some (w.heap.size, bxOf ⟨15, a, b⟩)) L (.tuple #[]) (Rg.stop 6 g))) := fun n => gstop_any _ _ _ _ _ _ _ _ _ (HB.out n)
  cases hl : g.s.gs.getLast? with
  | none =>
    have h0 : k = 0 := by rw [← hk, List.getLast?_eq_none_iff.1 hl]; rfl
    have HP2 : Hid (Rg.doI mt ⟨15, a, b⟩ g = Rg.stop 6 g) := HP.out.trans (by rw [hl])
    clear h hp hF hk HB HL HFr HP hl
    subst h0
    unfold GDoes
    go_enter Try.func20, Try.ntmps20
    go_wp2_with fail
    go_quiet ((fail))
    go_wp2_with fail
    refine (HC.out _).mono ?_
    rintro e w1 ⟨rfl, H1⟩
    have H1 := hid H1
    go_wp2_with fail
    go_returns
    exact ⟨rfl, by rw [HP2.out]; exact ⟨_, _, H1.out.unbox⟩⟩
  | some f =>
    have HG : g.s.gs = g.s.gs.dropLast ++ [f] := by
      obtain ⟨ys, e⟩ := List.getLast?_eq_some_iff.1 hl
      rw [e, List.dropLast_concat]
    have HP2 : Hid (Rg.doI mt ⟨15, a, b⟩ g = Rg.at_ g.s.bk ⟨{ g.s with gs := g.s.gs.dropLast, lo := f.1, bk := f.2 }, g.o⟩) := HP.out.trans (by rw [hl])
    have hk0 : ¬ k = 0 := by rw [← hk, HG, List.length_append]; simp
    have HE := hid (fun n => (HFr.out n).2.2 _ _ HG)
    clear h hp hF hk HB HL HFr HP hl HC HG
    unfold GDoes
    go_enter Try.func20, Try.ntmps20
    go_wp2_with fail
    go_quiet ((fail))
    go_wp2_with fail
    go_region
    all_goals
      go_wp2_with fail
      go_end0
      exact ⟨rfl, by rw [HP2.out]; obtain ⟨F', L', HE⟩ := HE.out _; first | exact HE.setPc _ | exact HE.drew.setPc _ | exact HE.setPcD _⟩

end Go.Proofs.Ytljdoholcdhkhaa
