/-
  The reference's run of an image: what it tells is what the machine as mathematics tells.
-/
import Derived.Test.YtljdoholcdhkhaaHh
import Derived.Test.YtljdoholcdhkhaaMore
namespace Go.Proofs.Ytljdoholcdhkhaa
open Go.RowKit Go.Shelf
set_option maxRecDepth 100000

theorem gstart_at {w W : World} {R bf bd d : Nat} {iv : Value} {mt : Int} {inp : List Int} (hb : Below w.heap.size w W) (hR : w.heap.size ≤ R) (hf : w.heap.size ≤ bf) (hdd : w.heap.size ≤ bd) (h1 : R ≠ bf) (h2 : R ≠ bd) (h3 : bf ≠ bd)
    (kR : W.heap[R]? = some (.cells #[.int .i64 0, .slice none 0 0, .slice (some ⟨bf, 0, none⟩) 1 1, .slice (some ⟨bd, 0, none⟩) d d, iv, .slice none 0 0, .int .i64 0, .int .i64 mt, .int .i64 0, .bool false] 56 (0, 0)))
    (kf : W.heap[bf]? = some (.cells #[.slice none 0 0, .int .i64 0] 53 (0, 0))) (kd : W.heap[bd]? = some (.cells (zer d) 3 (0, 0)))
    (hi : IntsAt w w.heap.size iv inp) (hin : inp.length ≤ 64) (hd : d ≤ 512) (ht : 0 ≤ mt ∧ mt ≤ 2000) :
    GAt w.heap.size R mt w W (fun k => if k = R then 1 else if k = bf then 4 else if k = bd then 5 else 9) ⟨.slice none 0 0, .slice (some ⟨bf, 0, none⟩) 1 1, .slice (some ⟨bd, 0, none⟩) d d, iv, .slice none 0 0, [.slice none 0 0], none⟩ ⟨startS d inp, false⟩ where
  blk := kR
  hR := hR
  tR := if_pos rfl
  st := ⟨World.ownsRow_nil _ _ _ _, fun k e => by cases e⟩
  ll := rfl
  lo := fun i hi => by
    have hi' : i < 1 := hi
    obtain rfl : i = 0 := by omega
    exact ⟨World.ownsRow_nil _ _ _ _, fun k e => by cases e⟩
  fr := ⟨⟨rfl, Or.inr ⟨bf, 1, _, rfl, hf, kf, Nat.le_refl _, by unfold maxLen; omega, rfl, rfl⟩⟩, fun k e => by
    have e : bf = k := by simpa [Value.ownBlock] using e
    subst e
    show (if bf = R then 1 else if bf = bf then 4 else if bf = bd then 5 else 9) = 4
    rw [if_neg (Ne.symm h1), if_pos rfl]⟩
  da := ⟨⟨by rw [ints_length, Nat.mul_one], Or.inr ⟨bd, d, _, by simp [startS], hdd, kd, by simp [startS], by unfold maxLen; omega, by rw [zer_size, Nat.mul_one], by
      rw [Nat.mul_one, zer_list]
      exact List.take_of_length_le (by rw [ints_length]; exact Nat.le_refl _)⟩⟩, fun k e => by
    have e : bd = k := by simpa [Value.ownBlock] using e
    subst e
    show (if bd = R then 1 else if bd = bf then 4 else if bd = bd then 5 else 9) = 5
    rw [if_neg (Ne.symm h2), if_neg (Ne.symm h3), if_pos rfl]⟩
  ou := ⟨World.ownsRow_nil _ _ _ _, fun k e => by cases e⟩
  below := hb
  inp := hi
  bmt := ht
  bst := by simp [startS]
  bgs := by simp [startS]
  bfr := fun f hf => by simp [startS] at hf
  blo := by simp [startS]
  bda := by simp [startS]; exact hd
  bou := by simp [startS]
  bin := hin
  tk := ⟨Int.le_refl _, ht.1⟩
  kp := fun p hp => by cases hp
theorem three_new (w : World) (o1 o2 o3 : Obj) : (((w.alloc o1).alloc o2).alloc o3).heap[w.heap.size]? = some o1 ∧ (((w.alloc o1).alloc o2).alloc o3).heap[w.heap.size + 1]? = some o2 ∧ (((w.alloc o1).alloc o2).alloc o3).heap[w.heap.size + 1 + 1]? = some o3 ∧ Below w.heap.size w (((w.alloc o1).alloc o2).alloc o3) := by
  have e : ∀ (v : World) (o : Obj), (v.alloc o).heap = v.heap.push o := fun _ _ => rfl
  refine ⟨?_, ?_, ?_, (((Below.refl _ _).alloc (Nat.le_refl _) _).alloc (by simp) _).alloc (by simp; omega) _⟩
  · simp only [e, Array.getElem?_push, Array.size_push]
    rw [if_neg (by omega), if_neg (by omega), if_pos trivial]
  · simp only [e, Array.getElem?_push, Array.size_push]
    rw [if_neg (by omega), if_pos trivial]
  · simp only [e, Array.getElem?_push, Array.size_push]
    rw [if_pos trivial]
theorem en20 : Enters Try.prog 20 := enters_of Try.func20 (by kernel_rfl) rfl

/- what a round begins with -/
structure Rnd (B R : Nat) (c : Mc.Cfg) (w0 : World) (Z : Rg.G) (g : Rg.G) (w : World) : Prop where
  ch : ∃ F L, Gch B R c.mt w0 (F, none) L w g
  sp : 0 ≤ g.s.steps ∧ g.s.steps ≤ c.ms
  go : (g.o = true ∧ g = Z) ∨ (g.o = false ∧ g.s.gs.length ≤ 24 ∧ ∃ f, (c.ms - g.s.steps).toNat < f ∧ Rg.run c f g.s = Z)
def leftG (ms : Int) (R : Nat) (i : Value) (w : World) : Nat := match w.cell? ⟨R, 9, none⟩ with
  | some (.bool true) => 0
  | _ => (ms - intOf i).toNat + 1
theorem Rnd.over {B R : Nat} {c : Mc.Cfg} {w0 w : World} {Z g : Rg.G} (h : Rnd B R c w0 Z g w) : w.cell? ⟨R, 9, none⟩ = some (.bool g.o) ∧ R < w.heap.size ∧ B ≤ w.heap.size := by
  obtain ⟨F, L, h⟩ := h.ch
  have h1 := h.over
  obtain ⟨T, v, h, _, _⟩ := h
  exact ⟨h1, h.ltR, h.hB⟩
theorem Rnd.left {B R : Nat} {c : Mc.Cfg} {w0 w : World} {Z g : Rg.G} (h : Rnd B R c w0 Z g w) : leftG c.ms R (.int .i64 g.s.steps) w = if g.o then 0 else (c.ms - g.s.steps).toNat + 1 := by
  unfold leftG
  rw [h.over.1]
  cases g.o <;> rfl
/- a round that goes on -/
theorem Rnd.next {B R : Nat} {c : Mc.Cfg} {w0 w w' : World} {Z : Rg.G} {s : Mc.St} {F : Value} {L : List Value} (h : Rnd B R c w0 Z ⟨s, false⟩ w) (hne : s.steps ≠ c.ms) (hpc : 0 ≤ s.pc ∧ s.pc < c.code.length)
    (hd : Gch B R c.mt w0 (F, none) L w' (Rg.doI c.mt (c.code.getD s.pc.toNat ⟨0, 0, 0⟩) ⟨{ s with steps := s.steps + 1 }, false⟩)) :
    Rnd B R c w0 Z (Rg.doI c.mt (c.code.getD s.pc.toNat ⟨0, 0, 0⟩) ⟨{ s with steps := s.steps + 1 }, false⟩) w' ∧ (Rg.doI c.mt (c.code.getD s.pc.toNat ⟨0, 0, 0⟩) ⟨{ s with steps := s.steps + 1 }, false⟩).s.steps = s.steps + 1 := by
  obtain ⟨g1, g2⟩ := good_do c.mt (c.code.getD s.pc.toNat ⟨0, 0, 0⟩) ⟨{ s with steps := s.steps + 1 }, false⟩
  have hsp := h.sp
  simp only at hsp g1 g2
  rcases h.go with ⟨h1, _⟩ | ⟨_, h2, f, h3, h4⟩
  · cases h1
  · simp only at h2 h3 h4
    refine ⟨⟨⟨F, L, hd⟩, by rw [g1]; omega, ?_⟩, g1⟩
    cases f with
    | zero => omega
    | succ f =>
      rw [Rg.run, if_neg hne, if_pos hpc] at h4
      generalize hG : Rg.doI c.mt (c.code.getD s.pc.toNat ⟨0, 0, 0⟩) ⟨{ s with steps := s.steps + 1 }, false⟩ = G at *
      cases ho : G.o with
      | true =>
        rw [if_pos ho] at h4
        exact Or.inl ⟨rfl, h4⟩
      | false =>
        rw [if_neg (by rw [ho]; decide)] at h4
        exact Or.inr ⟨rfl, g2 h2 ho, f, by rw [g1]; omega, h4⟩
theorem Rnd.full {B R : Nat} {c : Mc.Cfg} {w0 w : World} {Z : Rg.G} {s : Mc.St} (h : Rnd B R c w0 Z ⟨s, false⟩ w) (he : s.steps = c.ms) : Z = Rg.stop 7 ⟨s, false⟩ := by
  rcases h.go with ⟨h1, _⟩ | ⟨_, h2, f, h3, h4⟩
  · cases h1
  · cases f with
    | zero => omega
    | succ f =>
      rw [Rg.run, if_pos he] at h4
      exact h4.symm
theorem Rnd.away {B R : Nat} {c : Mc.Cfg} {w0 w : World} {Z : Rg.G} {s : Mc.St} (h : Rnd B R c w0 Z ⟨s, false⟩ w) (hne : s.steps ≠ c.ms) (hpc : ¬ (0 ≤ s.pc ∧ s.pc < c.code.length)) : Z = Rg.stop 6 ⟨{ s with steps := s.steps + 1 }, false⟩ := by
  rcases h.go with ⟨h1, _⟩ | ⟨_, h2, f, h3, h4⟩
  · cases h1
  · cases f with
    | zero => omega
    | succ f =>
      rw [Rg.run, if_neg hne, if_neg hpc] at h4
      exact h4.symm

set_option maxHeartbeats 3200000 in
theorem RunImage_any (a ia : Option Addr) (cap icap : Nat) (code : List Mc.Ins) (d : Nat) (inp : List Int) (ticks steps : Int) (w : World) (hT : ImgAt w a code) (hc : CfgOk ⟨code, ticks, steps⟩) (hc1 : 1 ≤ code.length)
    (hI : NumsAt w ia inp) (hin : inp.length ≤ 64) (hic : inp.length ≤ icap) (him : icap ≤ maxLen) (hd : d ≤ 512) (ht : 0 ≤ ticks) (hs : 0 ≤ steps) :
    Calls Try.prog 9 #[.agg #[.slice a code.length cap, .int .i64 d], .slice ia inp.length icap, .int .i64 ticks, .int .i64 steps] w fun e w' =>
      ∃ oa oc da dc, e = .returned (.tuple #[.agg #[.int .i64 (Rg.run ⟨code, ticks, steps⟩ (steps.toNat + 1) (startS d inp)).s.en, .slice oa (Rg.run ⟨code, ticks, steps⟩ (steps.toNat + 1) (startS d inp)).s.out.length oc, .slice da (Rg.run ⟨code, ticks, steps⟩ (steps.toNat + 1) (startS d inp)).s.data.length dc, .int .i64 (Rg.run ⟨code, ticks, steps⟩ (steps.toNat + 1) (startS d inp)).s.ticks], .int .i64 (Rg.run ⟨code, ticks, steps⟩ (steps.toNat + 1) (startS d inp)).s.steps]) ∧
        NumsFrom w.heap.size w' oa (Rg.run ⟨code, ticks, steps⟩ (steps.toNat + 1) (startS d inp)).s.out ∧ NumsFrom w.heap.size w' da (Rg.run ⟨code, ticks, steps⟩ (steps.toNat + 1) (startS d inp)).s.data ∧ Below w.heap.size w w' := by
  have hmk := make_zer d hd
  have hW0 : ∃ W0 : World, W0 = (w.alloc (.cells #[.slice a code.length cap, .int .i64 d] 24)).alloc (.cells #[.int .i64 0, .slice none 0 0, .slice none 0 0, .int .i64 0] 28) := ⟨_, rfl⟩
  obtain ⟨W0, hW0⟩ := hW0
  have hz0 : W0.heap.size = w.heap.size + 2 := by rw [hW0]; simp
  have HB0 : Hid (Below w.heap.size w W0) := by rw [hW0]; exact ((Below.refl _ _).alloc (Nat.le_refl _) _).alloc (by simp) _
  have HRes : Hid (W0.heap[w.heap.size + 1]? = some (.cells #[.int .i64 0, .slice none 0 0, .slice none 0 0, .int .i64 0] 28)) := by
    rw [hW0]
    have := _root_.Go.heap_alloc_new (w.alloc (.cells #[.slice a code.length cap, .int .i64 d] 24)) (.cells #[.int .i64 0, .slice none 0 0, .slice none 0 0, .int .i64 0] 28)
    rw [World.size_alloc] at this
    exact this
  have HBox : Hid (W0.cell? ⟨w.heap.size, 0, none⟩ = some (.slice a code.length cap)) := by rw [hW0]; show World.cell? _ _ = _; simp
  have hCode : ∃ b off, a = some ⟨b, off, none⟩ ∧ b < w.heap.size ∧ ∀ i (h : i < code.length), W0.cell? ⟨b, off + i * 3, none⟩ = some (.int .i64 code[i].op) ∧ W0.cell? ⟨b, off + i * 3 + 1, none⟩ = some (.int .i64 code[i].a) ∧ W0.cell? ⟨b, off + i * 3 + 2, none⟩ = some (.int .i64 code[i].b) := by
    rcases hT with h | ⟨b, off, e, hbl, h⟩
    · rw [h] at hc1; simp at hc1
    · exact ⟨b, off, e, hbl, fun i hi => ⟨(HB0.out.cell (p := ⟨b, off + i * 3, none⟩) hbl).trans (h i hi).1, (HB0.out.cell (p := ⟨b, off + i * 3 + 1, none⟩) hbl).trans (h i hi).2.1, (HB0.out.cell (p := ⟨b, off + i * 3 + 2, none⟩) hbl).trans (h i hi).2.2⟩⟩
  obtain ⟨b, off, rfl, hbl, hcells⟩ := hCode
  have HCode := hid hcells
  have HIn : Hid (IntsAt W0 W0.heap.size (.slice ia inp.length icap) inp) := by
    refine ⟨ia, icap, rfl, hic, him, ?_⟩
    rcases hI.later HB0.out with h | h
    · exact Or.inl h
    · exact Or.inr h
  have HC := hid hc
  have hcl := hc.len
  have hms := hc.ms
  simp only at hcl hms
  have HStart : Hid (∀ W R bf bd, Below W0.heap.size W0 W → W0.heap.size ≤ R → W0.heap.size ≤ bf → W0.heap.size ≤ bd → R ≠ bf → R ≠ bd → bf ≠ bd →
      W.heap[R]? = some (.cells #[.int .i64 0, .slice none 0 0, .slice (some ⟨bf, 0, none⟩) 1 1, .slice (some ⟨bd, 0, none⟩) d d, .slice ia inp.length icap, .slice none 0 0, .int .i64 0, .int .i64 ticks, .int .i64 0, .bool false] 56 (0, 0)) →
      W.heap[bf]? = some (.cells #[.slice none 0 0, .int .i64 0] 53 (0, 0)) → W.heap[bd]? = some (.cells (zer d) 3 (0, 0)) → Rnd W0.heap.size R ⟨code, ticks, steps⟩ W0 (Rg.run ⟨code, ticks, steps⟩ (steps.toNat + 1) (startS d inp)) ⟨startS d inp, false⟩ W) := fun W R bf bd h1 h2 h3 h4 h5 h6 h7 h8 h9 h10 =>
    ⟨⟨_, _, _, _, gstart_at h1 h2 h3 h4 h5 h6 h7 h8 h9 h10 HIn.out hin hd ⟨ht, hc.mt⟩, ⟨rfl, rfl⟩, rfl⟩, ⟨Int.le_refl _, hs⟩, Or.inr ⟨rfl, Nat.zero_le _, steps.toNat + 1, by show (steps - 0).toNat < _; omega, rfl⟩⟩
  generalize hZ : Rg.run ⟨code, ticks, steps⟩ (steps.toNat + 1) (startS d inp) = Z at *
  have HSt : Hid (∀ WX, WX = ((W0.alloc (.cells #[.slice none 0 0, .int .i64 0] 53)).alloc (.cells (zer d) 3)).alloc (.cells #[.int .i64 0, .slice none 0 0, .slice (some ⟨w.heap.size + 1 + 1, 0, none⟩) 1 1, .slice (some ⟨w.heap.size + 1 + 1 + 1, 0, none⟩) d d, .slice ia inp.length icap, .slice none 0 0, .int .i64 0, .int .i64 ticks, .int .i64 0, .bool false] 56) → Rnd W0.heap.size (w.heap.size + 1 + 1 + 1 + 1) ⟨code, ticks, steps⟩ W0 Z ⟨startS d inp, false⟩ WX) := by
    rintro WX rfl
    obtain ⟨k1, k2, k3, kb⟩ := three_new W0 (.cells #[.slice none 0 0, .int .i64 0] 53) (.cells (zer d) 3) (.cells #[.int .i64 0, .slice none 0 0, .slice (some ⟨w.heap.size + 1 + 1, 0, none⟩) 1 1, .slice (some ⟨w.heap.size + 1 + 1 + 1, 0, none⟩) d d, .slice ia inp.length icap, .slice none 0 0, .int .i64 0, .int .i64 ticks, .int .i64 0, .bool false] 56)
    rw [hz0] at k1 k2 k3
    exact HStart.out _ (w.heap.size + 1 + 1 + 1 + 1) (w.heap.size + 1 + 1) (w.heap.size + 1 + 1 + 1) kb (by omega) (by omega) (by omega) (by omega) (by omega) (by omega) k3 k1 k2
  have HW0 := hid hW0
  have HZ0 := hid hz0
  clear hT hI hcells hc hic him hZ HIn HStart hW0 hz0
  go_enter Try.func9, Try.ntmps9
  go_wp2_with fail
  go_loopw [11] (fun i wr => ∃ g : Rg.G, i = .int .i64 g.s.steps ∧ Hid (Rnd W0.heap.size (w.heap.size + 1 + 1 + 1 + 1) ⟨code, ticks, steps⟩ W0 Z g wr)) (fun i wr => leftG steps (w.heap.size + 1 + 1 + 1 + 1) i wr)
  case atStart => exact ⟨⟨startS d inp, false⟩, rfl, HSt.out _ (by rw [HW0.out])⟩
  case round =>
    obtain ⟨g, rfl, HR⟩ := hrel
    obtain ⟨k9, hRl, hBl⟩ := HR.out.over
    have hsp := HR.out.sp
    simp only at hsp
    obtain ⟨n, hn⟩ : ∃ n, g.s.steps = n := ⟨_, rfl⟩
    rw [hn] at hsp ⊢
    have HNn := hid hn
    obtain ⟨hn0, hn1⟩ := hsp
    rcases HR.out.go with ⟨ho, hgZ⟩ | ⟨ho, hgs, -⟩
    · have HZs : Hid (Z.s.steps = n) := by rw [← hgZ]; exact hn
      rw [ho] at k9
      obtain ⟨F, L, HZ⟩ := HR.out.ch
      rw [hgZ] at HZ
      clear hgZ hn ho HR HSt hRl hBl
      obtain ⟨T3, ⟨st3, fr3, da3, iv3, ou3, lv3, bx3⟩, hA3, -, -⟩ := HZ
      obtain ⟨oa, oc, ho, hoc, hO⟩ := NumsAt.of_own hA3.ou
      obtain ⟨da, dc, hd, -, hD⟩ := NumsAt.of_own hA3.da
      simp only at ho hd
      subst ho
      subst hd
      have HO := hid hO
      have HD := hid hD
      obtain ⟨-, -, -, m3, -, m5, m6, -, m8, -, -⟩ := hA3.cell
      simp only at m3 m5
      have HB3 := hid hA3.below
      have hz3 := hA3.below.size
      have hRl := hA3.ltR
      have HX := hid ((hA3.below.block (w.heap.size + 1) (by rw [HZ0.out]; omega)).trans HRes.out)
      have x0 : wr.cell? ⟨w.heap.size + 1, 0, none⟩ = some (.int .i64 0) := by rw [Lib.cell_of_heap HX.out]; rfl
      have x1 : wr.cell? ⟨w.heap.size + 1, 1, none⟩ = some (.slice none 0 0) := by rw [Lib.cell_of_heap HX.out]; rfl
      have x2 : wr.cell? ⟨w.heap.size + 1, 2, none⟩ = some (.slice none 0 0) := by rw [Lib.cell_of_heap HX.out]; rfl
      have x3 : wr.cell? ⟨w.heap.size + 1, 3, none⟩ = some (.int .i64 0) := by rw [Lib.cell_of_heap HX.out]; rfl
      have xf : ∀ j, wr.frozen? ⟨w.heap.size + 1, j, none⟩ = false := fun j => Lib.frozen_of_heap HX.out j
      have hlt3 : w.heap.size + 1 < wr.heap.size := by have := HZ0.out; omega
      have hnR : w.heap.size + 1 ≠ w.heap.size + 1 + 1 + 1 + 1 := by omega
      clear hA3 hO hD
      go_wp2_with fail
      go_region
      go_wp2_with fail
      refine bodyPost_ret (v := .tuple #[.agg #[.int .i64 Z.s.en, .slice oa Z.s.out.length oc, .slice da Z.s.data.length dc, .int .i64 Z.s.ticks], .int .i64 (n)]) (by simp [results, Try.results9, go_sem, x0, x1, x2, x3]) rfl ⟨oa, oc, da, dc, by rw [HZs.out], (HO.out _ (by simp) (fun k hk => ?_)).mono (by have := HZ0.out; omega), (HD.out _ (by simp) (fun k hk => ?_)).mono (by have := HZ0.out; omega), ?_⟩
      · exact heap_set4 wr (w.heap.size + 1) _ _ _ _ k (by have := HZ0.out; omega)
      · exact heap_set4 wr (w.heap.size + 1) _ _ _ _ k (by have := HZ0.out; omega)
      · exact (below_set4 (HB0.out.trans (HB3.out.mono (B' := w.heap.size) (by have := HZ0.out; omega))) (w.heap.size + 1) (Nat.le_succ _) _ _ _ _).drew
    · rw [ho] at k9
      obtain ⟨F, L, hG⟩ := HR.out.ch
      obtain ⟨s, o⟩ := g
      simp only at ho hn hgs
      subst ho
      by_cases he : n = steps
      · have eZ : Z = Rg.stop 7 ⟨s, false⟩ := HR.out.full (by rw [hn]; exact he)
        have HZs : Hid (Z.s.steps = n) := by rw [eZ]; exact hn
        have hb : (n == steps) = true := beq_iff_eq.2 he
        have HG := hid hG
        have HE := hid eZ
        clear hG eZ hn HR HSt he
        go_wp2_with fail
        refine (gstop_any _ _ _ _ _ _ _ _ _ HG.out).mono ?_
        rintro e w2 ⟨rfl, HZ⟩
        rw [← HE.out] at HZ
        clear HG HE k9 hRl hBl
        obtain ⟨T3, ⟨st3, fr3, da3, iv3, ou3, lv3, bx3⟩, hA3, -, -⟩ := HZ
        obtain ⟨oa, oc, ho, hoc, hO⟩ := NumsAt.of_own hA3.ou
        obtain ⟨da, dc, hd, -, hD⟩ := NumsAt.of_own hA3.da
        simp only at ho hd
        subst ho
        subst hd
        have HO := hid hO
        have HD := hid hD
        obtain ⟨-, -, -, m3, -, m5, m6, -, m8, -, -⟩ := hA3.cell
        simp only at m3 m5
        have HB3 := hid hA3.below
        have hz3 := hA3.below.size
        have hRl := hA3.ltR
        have HX := hid ((hA3.below.block (w.heap.size + 1) (by rw [HZ0.out]; omega)).trans HRes.out)
        have x0 : w2.cell? ⟨w.heap.size + 1, 0, none⟩ = some (.int .i64 0) := by rw [Lib.cell_of_heap HX.out]; rfl
        have x1 : w2.cell? ⟨w.heap.size + 1, 1, none⟩ = some (.slice none 0 0) := by rw [Lib.cell_of_heap HX.out]; rfl
        have x2 : w2.cell? ⟨w.heap.size + 1, 2, none⟩ = some (.slice none 0 0) := by rw [Lib.cell_of_heap HX.out]; rfl
        have x3 : w2.cell? ⟨w.heap.size + 1, 3, none⟩ = some (.int .i64 0) := by rw [Lib.cell_of_heap HX.out]; rfl
        have xf : ∀ j, w2.frozen? ⟨w.heap.size + 1, j, none⟩ = false := fun j => Lib.frozen_of_heap HX.out j
        have hlt3 : w.heap.size + 1 < w2.heap.size := by have := HZ0.out; omega
        have hnR : w.heap.size + 1 ≠ w.heap.size + 1 + 1 + 1 + 1 := by omega
        clear hA3 hO hD
        go_wp2_with fail
        go_region
        go_wp2_with fail
        refine bodyPost_ret (v := .tuple #[.agg #[.int .i64 Z.s.en, .slice oa Z.s.out.length oc, .slice da Z.s.data.length dc, .int .i64 Z.s.ticks], .int .i64 (n)]) (by simp [results, Try.results9, go_sem, x0, x1, x2, x3]) rfl ⟨oa, oc, da, dc, by rw [HZs.out], (HO.out _ (by simp) (fun k hk => ?_)).mono (by have := HZ0.out; omega), (HD.out _ (by simp) (fun k hk => ?_)).mono (by have := HZ0.out; omega), ?_⟩
        · exact heap_set4 w2 (w.heap.size + 1) _ _ _ _ k (by have := HZ0.out; omega)
        · exact heap_set4 w2 (w.heap.size + 1) _ _ _ _ k (by have := HZ0.out; omega)
        · exact (below_set4 (HB0.out.trans (HB3.out.mono (B' := w.heap.size) (by have := HZ0.out; omega))) (w.heap.size + 1) (Nat.le_succ _) _ _ _ _).drew
      · have hb : (n == steps) = false := beq_eq_false_iff_ne.2 he
        have hlt : n < steps := by omega
        have HG := hid (hG.steps (n + 1))
        have k0 : wr.cell? ⟨w.heap.size + 1 + 1 + 1 + 1, 0, none⟩ = some (.int .i64 s.pc) := by
          obtain ⟨T, v, h, _, _⟩ := hG
          exact h.cell.1
        have hbel : Below W0.heap.size W0 wr := by
          obtain ⟨T, v, h, _, _⟩ := hG
          exact h.below
        have kc : wr.cell? ⟨w.heap.size, 0, none⟩ = some (.slice (some ⟨b, off, none⟩) code.length cap) := (hbel.cell (p := ⟨w.heap.size, 0, none⟩) (by show w.heap.size < W0.heap.size; rw [HZ0.out]; omega)).trans HBox.out
        have hw1 : IntKind.i64.wrap ((code.length : Int) - 1) = (code.length : Int) - 1 := by rw [IntKind.wrap_i64] <;> omega
        have hws : w.heap.size < wr.heap.size := by have := HZ0.out; have := hbel.size; omega
        have hlen : inB s.pc 0 ((code.length : Int) - 1) = decide (0 ≤ s.pc ∧ s.pc < code.length) := by
          unfold inB
          rw [Bool.eq_iff_iff]
          simp only [Bool.and_eq_true, decide_eq_true_eq]
          omega
        have HBel := hid hbel
        by_cases hpc : 0 ≤ s.pc ∧ s.pc < code.length
        · have HI : Hid (inB s.pc 0 ((code.length : Int) - 1) = true) := by rw [hlen]; exact decide_eq_true hpc
          have HDo : Hid (∀ m, Calls Try.prog 20 #[.pointer (some ⟨w.heap.size + 1 + 1 + 1 + 1, 0, none⟩), .agg #[.int .i64 (code.getD s.pc.toNat ⟨0, 0, 0⟩).op, .int .i64 (code.getD s.pc.toNat ⟨0, 0, 0⟩).a, .int .i64 (code.getD s.pc.toNat ⟨0, 0, 0⟩).b]] (wr.drewN m).drew fun e w' => e = .returned (.tuple #[]) ∧ ∃ F' L', Gch W0.heap.size (w.heap.size + 1 + 1 + 1 + 1) ticks W0 (F', none) L' w' (Rg.doI ticks (code.getD s.pc.toNat ⟨0, 0, 0⟩) ⟨{ s with steps := s.steps + 1 }, false⟩)) := fun m => by
            have hi : code.getD s.pc.toNat ⟨0, 0, 0⟩ ∈ code := by
              rw [List.getD_eq_getElem?_getD, List.getElem?_eq_getElem (by omega), Option.getD_some]
              exact List.getElem_mem _
            obtain ⟨o1, o2, o3, o4⟩ := HC.out.ops _ hi
            have := gdo_any W0.heap.size (w.heap.size + 1 + 1 + 1 + 1) ticks W0 F L _ _ _ ((hG.steps (s.steps + 1)).drewN m).drew ⟨rfl, by show 0 ≤ s.pc ∧ s.pc ≤ 2048; omega, hgs, o3, o4⟩ ⟨o1, o2⟩
            exact this
          obtain ⟨p, hp⟩ := Int.eq_ofNat_of_zero_le hpc.1
          have hpl : p < code.length := by omega
          have hget : code.getD s.pc.toNat ⟨0, 0, 0⟩ = code[p] := by rw [hp, Int.toNat_natCast, List.getD_eq_getElem?_getD, List.getElem?_eq_getElem hpl, Option.getD_some]
          have HNx : Hid (∀ w' F' L', Gch W0.heap.size (w.heap.size + 1 + 1 + 1 + 1) ticks W0 (F', none) L' w' (Rg.doI ticks code[p] ⟨{ s with steps := s.steps + 1 }, false⟩) → Rnd W0.heap.size (w.heap.size + 1 + 1 + 1 + 1) ⟨code, ticks, steps⟩ W0 Z (Rg.doI ticks code[p] ⟨{ s with steps := s.steps + 1 }, false⟩) w' ∧ (Rg.doI ticks code[p] ⟨{ s with steps := s.steps + 1 }, false⟩).s.steps = n + 1) := fun w' F' L' h => by
            rw [← hget] at h ⊢
            obtain ⟨h1, h2⟩ := HR.out.next (by rw [hn]; exact he) hpc h
            exact ⟨h1, by rw [← hn]; exact h2⟩
          rw [hget] at HDo
          obtain ⟨d0, d1, d2⟩ := HCode.out p hpl
          have hbW : b < W0.heap.size := by rw [HZ0.out]; omega
          have e0 := (hbel.cell (p := ⟨b, off + p * 3, none⟩) hbW).trans d0
          have e1 := (hbel.cell (p := ⟨b, off + p * 3 + 1, none⟩) hbW).trans d1
          have e2 := (hbel.cell (p := ⟨b, off + p * 3 + 2, none⟩) hbW).trans d2
          have hbr : b < wr.heap.size := by have := hbel.size; omega
          rw [hp] at k0 HI
          have HLe : Hid (leftG steps (w.heap.size + 1 + 1 + 1 + 1) (.int .i64 n) wr = (steps - n).toNat + 1) := by
            have := HR.out.left
            simp only [hn] at this
            exact this
          clear hG hn HR HSt hget hp hpc hlen d0 d1 d2 hbel HG HBel hgs he
          generalize hI0 : code[p] = I at *
          clear hI0
          obtain ⟨iop, ia1, ib1⟩ := I
          simp only at HDo e0 e1 e2
          go_wp2_with fail
          go_quiet ((go_at_call 18; exact Calls.quiet_of_same (within_any true _ _ _ _ HI.out)))
          go_wp2_with fail
          go_region_law (refine step_callR (by rfl) 20 _ _ (by rfl) en20 _ (by kernel_rfl) _ (HDo.out _) ?_; rintro w2 ⟨F2, L2, H2⟩; have H2 := hid H2)
          all_goals
            go_wp2_with fail
            go_roundw
            case rel =>
              obtain ⟨h1, h2⟩ := HNx.out _ _ _ H2.out
              exact ⟨_, by rw [h2], h1⟩
            case measure =>
              obtain ⟨h1, h2⟩ := HNx.out _ _ _ H2.out
              have h3 := h1.left
              rw [h2] at h3
              show leftG steps (w.heap.size + 1 + 1 + 1 + 1) (.int .i64 (n + 1)) w2 < leftG steps (w.heap.size + 1 + 1 + 1 + 1) (.int .i64 n) wr
              rw [HLe.out]
              simp only at h3
              rw [h3]
              split <;> omega
        · have HI : Hid (inB s.pc 0 ((code.length : Int) - 1) = false) := by rw [hlen]; exact decide_eq_false hpc
          have eZ : Z = Rg.stop 6 ⟨{ s with steps := s.steps + 1 }, false⟩ := HR.out.away (by rw [hn]; exact he) hpc
          rw [hn] at eZ
          have HZs : Hid (Z.s.steps = n + 1) := by rw [eZ]; rfl
          have HE := hid eZ
          clear hG eZ hn HR HSt hpc hlen hbel HBel he
          go_wp2_with fail
          go_quiet ((go_at_call 18; exact Calls.quiet_of_same (within_any false _ _ _ _ HI.out)))
          go_wp2_with fail
          refine (gstop_any _ _ _ _ _ _ _ _ _ (HG.out.drewN _)).mono ?_
          rintro e w2 ⟨rfl, HZ⟩
          rw [← HE.out] at HZ
          clear HG HE k9 hRl hBl k0 kc hws
          obtain ⟨T3, ⟨st3, fr3, da3, iv3, ou3, lv3, bx3⟩, hA3, -, -⟩ := HZ
          obtain ⟨oa, oc, ho, hoc, hO⟩ := NumsAt.of_own hA3.ou
          obtain ⟨da, dc, hd, -, hD⟩ := NumsAt.of_own hA3.da
          simp only at ho hd
          subst ho
          subst hd
          have HO := hid hO
          have HD := hid hD
          obtain ⟨-, -, -, m3, -, m5, m6, -, m8, -, -⟩ := hA3.cell
          simp only at m3 m5
          have HB3 := hid hA3.below
          have hz3 := hA3.below.size
          have hRl := hA3.ltR
          have HX := hid ((hA3.below.block (w.heap.size + 1) (by rw [HZ0.out]; omega)).trans HRes.out)
          have x0 : w2.cell? ⟨w.heap.size + 1, 0, none⟩ = some (.int .i64 0) := by rw [Lib.cell_of_heap HX.out]; rfl
          have x1 : w2.cell? ⟨w.heap.size + 1, 1, none⟩ = some (.slice none 0 0) := by rw [Lib.cell_of_heap HX.out]; rfl
          have x2 : w2.cell? ⟨w.heap.size + 1, 2, none⟩ = some (.slice none 0 0) := by rw [Lib.cell_of_heap HX.out]; rfl
          have x3 : w2.cell? ⟨w.heap.size + 1, 3, none⟩ = some (.int .i64 0) := by rw [Lib.cell_of_heap HX.out]; rfl
          have xf : ∀ j, w2.frozen? ⟨w.heap.size + 1, j, none⟩ = false := fun j => Lib.frozen_of_heap HX.out j
          have hlt3 : w.heap.size + 1 < w2.heap.size := by have := HZ0.out; omega
          have hnR : w.heap.size + 1 ≠ w.heap.size + 1 + 1 + 1 + 1 := by omega
          clear hA3 hO hD
          go_wp2_with fail
          go_region
          go_wp2_with fail
          refine bodyPost_ret (v := .tuple #[.agg #[.int .i64 Z.s.en, .slice oa Z.s.out.length oc, .slice da Z.s.data.length dc, .int .i64 Z.s.ticks], .int .i64 (n + 1)]) (by simp [results, Try.results9, go_sem, x0, x1, x2, x3]) rfl ⟨oa, oc, da, dc, by rw [HZs.out], (HO.out _ (by simp) (fun k hk => ?_)).mono (by have := HZ0.out; omega), (HD.out _ (by simp) (fun k hk => ?_)).mono (by have := HZ0.out; omega), ?_⟩
          · exact heap_set4 w2 (w.heap.size + 1) _ _ _ _ k (by have := HZ0.out; omega)
          · exact heap_set4 w2 (w.heap.size + 1) _ _ _ _ k (by have := HZ0.out; omega)
          · exact (below_set4 (HB0.out.trans (HB3.out.mono (B' := w.heap.size) (by have := HZ0.out; omega))) (w.heap.size + 1) (Nat.le_succ _) _ _ _ _).drew

end Go.Proofs.Ytljdoholcdhkhaa
