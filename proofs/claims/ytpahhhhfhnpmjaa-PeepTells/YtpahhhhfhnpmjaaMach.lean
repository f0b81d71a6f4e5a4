/-
  The program's Run: errors first, else what the machine does.
-/
import Derived.Test.YtpahhhhfhnpmjaaRun
import Derived.Test.YtpahhhhfhnpmjaaNew
namespace Go.Proofs.Ytpahhhhfhnpmjaa
open Go.RowKit Go.Shelf
set_option maxRecDepth 100000

/- numbers in memory, wherever they are -/
def NumsAt (w : World) (a : Option Addr) (l : List Int) : Prop :=
  l = [] ∨ ∃ b off, a = some ⟨b, off, none⟩ ∧ b < w.heap.size ∧ ∀ i (h : i < l.length), w.cell? ⟨b, off + i, none⟩ = some (.int .i64 l[i])
theorem NumsAt.later {w w' : World} {a : Option Addr} {l : List Int} (h : NumsAt w a l) (hb : Below w.heap.size w w') : NumsAt w' a l := by
  rcases h with h | ⟨b, off, e, hl, h⟩
  · exact Or.inl h
  · exact Or.inr ⟨b, off, e, Nat.lt_of_lt_of_le hl hb.size, fun i hi => (hb.cell (p := ⟨b, off + i, none⟩) hl).trans (h i hi)⟩
/- the same, in blocks from lo on -/
def NumsFrom (lo : Nat) (w : World) (a : Option Addr) (l : List Int) : Prop :=
  l = [] ∨ ∃ b off, a = some ⟨b, off, none⟩ ∧ lo ≤ b ∧ b < w.heap.size ∧ ∀ i (h : i < l.length), w.cell? ⟨b, off + i, none⟩ = some (.int .i64 l[i])
theorem NumsFrom.at {lo : Nat} {w : World} {a : Option Addr} {l : List Int} (h : NumsFrom lo w a l) : NumsAt w a l := by
  rcases h with h | ⟨b, off, e, _, hl, h⟩
  · exact Or.inl h
  · exact Or.inr ⟨b, off, e, hl, h⟩
theorem NumsFrom.mono {lo lo' : Nat} {w : World} {a : Option Addr} {l : List Int} (h : NumsFrom lo w a l) (hl : lo' ≤ lo) : NumsFrom lo' w a l := by
  rcases h with h | ⟨b, off, e, h1, h2, h⟩
  · exact Or.inl h
  · exact Or.inr ⟨b, off, e, Nat.le_trans hl h1, h2, h⟩
theorem NumsFrom.keep {lo : Nat} {w W : World} {a : Option Addr} {l : List Int} (h : NumsFrom lo w a l) (hz : w.heap.size ≤ W.heap.size) (hk : ∀ k, lo ≤ k → k < w.heap.size → W.heap[k]? = w.heap[k]?) : NumsFrom lo W a l := by
  rcases h with h | ⟨b, off, e, h1, h2, h⟩
  · exact Or.inl h
  · exact Or.inr ⟨b, off, e, h1, Nat.lt_of_lt_of_le h2 hz, fun i hi => (World.cell?_of_block (w := w) (hk b h1 h2)).trans (h i hi)⟩
theorem NumsAt.of_own {w : World} {T : Nat → Nat} {B mark : Nat} {v : Value} {l : List Int} (h : Own w T B mark 3 1 v l.length (ints l)) : ∃ a cap, v = .slice a l.length cap ∧ l.length ≤ cap ∧ ∀ W : World, w.heap.size ≤ W.heap.size → (∀ k, B ≤ k → W.heap[k]? = w.heap[k]?) → NumsFrom B W a l := by
  by_cases hl : 0 < l.length
  · obtain ⟨g, cap, hv, hc, _, hB, hlt, _, _, hcell⟩ := h.place hl
    refine ⟨_, cap, hv, hc, fun W hz hk => Or.inr ⟨g, 0, rfl, hB, Nat.lt_of_lt_of_le hlt hz, fun i hi => ?_⟩⟩
    rw [Nat.zero_add]
    have := hcell i _ (ints_get l i hi)
    rw [List.getD_eq_getElem?_getD, List.getElem?_eq_getElem hi, Option.getD_some] at this
    exact (World.cell?_of_block (w := w) (hk g hB)).trans this
  · obtain ⟨a, cap, hv, hc, _⟩ := h.form
    exact ⟨a, cap, hv, hc, fun _ _ _ => Or.inl (List.eq_nil_of_length_eq_zero (by omega))⟩

/- what Run answers -/
structure Ans where
  en : Int
  out : List Int
  data : List Int
  ticks : Int
  steps : Int
  err : Int
def ansR (code : List Mc.Ins) (d : Int) (inp : List Int) (ticks steps : Int) : Ans :=
  if errR code d inp.length ticks steps = 0 then
    let s := Mc.run ⟨code, ticks, steps⟩ (steps.toNat + 1) (startS d.toNat inp)
    ⟨s.en, s.out, s.data, s.ticks, s.steps, 0⟩
  else ⟨0, [], [], 0, 0, errR code d inp.length ticks steps⟩
theorem errR_zero {code : List Mc.Ins} {d : Int} {n : Nat} {ticks steps : Int} (h : errR code d n ticks steps = 0) :
    (1 ≤ code.length ∧ code.length ≤ 2048) ∧ code.all opB = true ∧ (0 ≤ d ∧ d ≤ 512) ∧ n ≤ 64 ∧ (0 ≤ ticks ∧ ticks ≤ 2000) ∧ (0 ≤ steps ∧ steps ≤ 134217728) := by
  unfold errR at h
  split at h
  · rename_i h1; exact absurd h h1
  · rename_i h1
    have h1 : checkI code d = 0 := by simpa using h1
    split at h
    · cases h
    · split at h
      · cases h
      · unfold checkI at h1
        split at h1
        · cases h1
        · split at h1
          · split at h1
            · cases h1
            · exact ⟨by omega, by assumption, by omega, by omega, by omega, by omega⟩
          · cases h1

set_option maxHeartbeats 1600000 in
theorem Run_any (a ia : Option Addr) (cap icap : Nat) (code : List Mc.Ins) (d : Int) (inp : List Int) (ticks steps : Int) (w : World) (hT : ImgAt w a code) (hl : code.length ≤ 1000000000000000) (hfit : ∀ i ∈ code, InsFit i)
    (hI : NumsAt w ia inp) (hil : inp.length ≤ 1000000000000000) (hic : inp.length ≤ icap) (him : icap ≤ maxLen) :
    Calls Try.prog 13 #[.agg #[.slice a code.length cap, .int .i64 d], .slice ia inp.length icap, .int .i64 ticks, .int .i64 steps] w fun e w' =>
      ∃ oa oc da dc, e = .returned (.tuple #[.agg #[.int .i64 (ansR code d inp ticks steps).en, .slice oa (ansR code d inp ticks steps).out.length oc, .slice da (ansR code d inp ticks steps).data.length dc, .int .i64 (ansR code d inp ticks steps).ticks], .int .i64 (ansR code d inp ticks steps).steps, .int .i64 (ansR code d inp ticks steps).err]) ∧
        NumsFrom w.heap.size w' oa (ansR code d inp ticks steps).out ∧ NumsFrom w.heap.size w' da (ansR code d inp ticks steps).data ∧ Below w.heap.size w w' ∧ (ansR code d inp ticks steps).out.length ≤ oc ∧ (ansR code d inp ticks steps).out.length ≤ 200 ∧ (ansR code d inp ticks steps).data.length ≤ 512 := by
  have HT := hid hT
  have HC : Hid (∀ w : World, ImgAt w a code → Calls Try.prog 26 #[.agg #[.slice a code.length cap, .int .i64 d], .slice ia inp.length icap, .int .i64 ticks, .int .i64 steps] w fun e w' => e = .returned (.int .i64 (errR code d inp.length ticks steps)) ∧ Below w.heap.size w w') := fun w h => checkRun_any a cap code d ia inp.length icap ticks steps w h hl hil
  by_cases h0 : errR code d inp.length ticks steps = 0
  · obtain ⟨⟨hc1, hc2⟩, hops, ⟨hd0, hd1⟩, hin, ⟨ht0, ht1⟩, hs0, hs1⟩ := errR_zero h0
    obtain ⟨dn, rfl⟩ := Int.eq_ofNat_of_zero_le hd0
    have HE : Hid (ansR code dn inp ticks steps = ⟨(Mc.run ⟨code, ticks, steps⟩ (steps.toNat + 1) (startS dn inp)).en, (Mc.run ⟨code, ticks, steps⟩ (steps.toNat + 1) (startS dn inp)).out, (Mc.run ⟨code, ticks, steps⟩ (steps.toNat + 1) (startS dn inp)).data, (Mc.run ⟨code, ticks, steps⟩ (steps.toNat + 1) (startS dn inp)).ticks, (Mc.run ⟨code, ticks, steps⟩ (steps.toNat + 1) (startS dn inp)).steps, 0⟩) := by
      show ansR code dn inp ticks steps = _
      unfold ansR
      rw [if_pos h0, Int.toNat_natCast]
    have HCf : Hid (CfgOk ⟨code, ticks, steps⟩) := ⟨ht1, hs1, hc2, fun i hi => by
      have := List.all_eq_true.1 hops i hi
      simp [opB] at this
      exact ⟨this.1, this.2, (hfit i hi).1, (hfit i hi).2⟩⟩
    have HN : Hid (∀ W : World, Below w.heap.size w W → Calls Try.prog 27 #[.agg #[.slice a code.length cap, .int .i64 (dn : Int)], .slice ia inp.length icap, .int .i64 ticks, .int .i64 steps] W fun e w' => ∃ R T v, e = .returned (.pointer (some ⟨R, 0, none⟩)) ∧ MAt W.heap.size R ⟨code, ticks, steps⟩ W w' T v (startS dn inp)) := fun W hb => by
      refine new_any a ia cap code.length inp.length icap dn ⟨code, ticks, steps⟩ inp W (by omega) HCf.out ?_ ?_ hin ht0 hs0
      · rcases hT.later hb with h | ⟨b, off, e, hbl, h⟩
        · rw [h] at hc1; simp at hc1
        · exact ⟨b, off, cap, by rw [e], hbl, h⟩
      · refine ⟨ia, icap, rfl, hic, him, ?_⟩
        rcases hI.later hb with h | h
        · exact Or.inl h
        · exact Or.inr h
    have HRun : Hid (∀ (W W2 : World) (R : Nat), Mch W.heap.size R ⟨code, ticks, steps⟩ W W2 (startS dn inp) → Calls Try.prog 28 #[.pointer (some ⟨R, 0, none⟩)] W2 fun e w' => e = .returned (.tuple #[]) ∧ Mch W.heap.size R ⟨code, ticks, steps⟩ W w' (Mc.run ⟨code, ticks, steps⟩ (steps.toNat + 1) (startS dn inp))) := fun W W2 R h => run_any _ R _ W _ W2 h _ (by show (steps - 0).toNat < _; omega)
    rw [h0] at HC
    clear h0 hT hI hfit hops HCf
    rw [HE.out]
    simp only
    generalize Mc.run ⟨code, ticks, steps⟩ (steps.toNat + 1) (startS dn inp) = F at *
    go_enter Try.func13, Try.ntmps13
    go_wp2_with fail
    refine (HC.out _ (HT.out.later (((Below.refl _ _).alloc (Nat.le_refl _) _).alloc (by simp) _))).mono ?_
    rintro e w1 ⟨rfl, hb1⟩
    have HB1 : Hid (Below w.heap.size w w1) := (((Below.refl _ _).alloc (Nat.le_refl _) _).alloc (by simp) _).trans (hb1.mono (by simp; omega))
    have hz1 : w.heap.size + 2 ≤ w1.heap.size := by have := hb1.size; simp at this; omega
    have i0 : w1.cell? ⟨w.heap.size, 0, none⟩ = some (.slice a code.length cap) := (hb1.cell (p := ⟨w.heap.size, 0, none⟩) (by simp; omega)).trans (by simp)
    have i1 : w1.cell? ⟨w.heap.size, 1, none⟩ = some (.int .i64 (dn : Int)) := (hb1.cell (p := ⟨w.heap.size, 1, none⟩) (by simp; omega)).trans (by simp)
    have hr : w1.heap[w.heap.size + 1]? = some (.cells #[.int .i64 0, .slice none 0 0, .slice none 0 0, .int .i64 0] 40) := (hb1.block (w.heap.size + 1) (by simp)).trans (by have := _root_.Go.heap_alloc_new (w.alloc (.cells #[.slice a code.length cap, .int .i64 (dn : Int)] 24)) (.cells #[.int .i64 0, .slice none 0 0, .slice none 0 0, .int .i64 0] 40); simpa using this)
    have HR := hid hr
    clear hb1 hr HC
    go_wp2_with fail
    refine (HN.out _ HB1.out).mono ?_
    rintro e w2 ⟨R, T, v, rfl, hM⟩
    have HM := hid hM
    clear hM
    go_wp2_with fail
    refine (HRun.out _ _ R ⟨T, v, HM.out⟩).mono ?_
    rintro e w3 ⟨rfl, hM3⟩
    obtain ⟨T3, ⟨cv3, st3, lo3, fr3, da3, iv3, ou3⟩, hA3⟩ := hM3
    obtain ⟨oa, oc, ho, hoc, hO⟩ := NumsAt.of_own hA3.ou
    obtain ⟨da, dc, hd, -, hD⟩ := NumsAt.of_own hA3.da
    simp only at ho hd
    subst ho
    subst hd
    have HO := hid hO
    have HD := hid hD
    have HOC := hid hoc
    have HOL : Hid (F.out.length ≤ 200 ∧ F.data.length ≤ 512) := ⟨hA3.bou, hA3.bda⟩
    clear hoc
    obtain ⟨-, -, -, -, -, m5, -, m7, -, m9, -, m11, m12, -⟩ := hA3.cell
    simp only at m5 m7
    have HB3 := hid hA3.below
    have hz3 := hA3.below.size
    have hRl := hA3.ltR
    have hRw := hA3.hR
    have HX := hid ((hA3.below.block (w.heap.size + 1) (by omega)).trans HR.out)
    have x0 : w3.cell? ⟨w.heap.size + 1, 0, none⟩ = some (.int .i64 0) := by rw [Lib.cell_of_heap HX.out]; rfl
    have x1 : w3.cell? ⟨w.heap.size + 1, 1, none⟩ = some (.slice none 0 0) := by rw [Lib.cell_of_heap HX.out]; rfl
    have x2 : w3.cell? ⟨w.heap.size + 1, 2, none⟩ = some (.slice none 0 0) := by rw [Lib.cell_of_heap HX.out]; rfl
    have x3 : w3.cell? ⟨w.heap.size + 1, 3, none⟩ = some (.int .i64 0) := by rw [Lib.cell_of_heap HX.out]; rfl
    have xf : ∀ j, w3.frozen? ⟨w.heap.size + 1, j, none⟩ = false := fun j => Lib.frozen_of_heap HX.out j
    have hlt3 : w.heap.size + 1 < w3.heap.size := by omega
    have hne : w.heap.size + 1 ≠ R := by omega
    clear HRun hA3 hO hD HM HN
    go_wp2_with fail
    go_region
    go_wp2_with fail
    refine bodyPost_ret (v := .tuple #[.agg #[.int .i64 F.en, .slice oa F.out.length oc, .slice da F.data.length dc, .int .i64 F.ticks], .int .i64 F.steps, .int .i64 0]) (by simp [results, Try.results13, go_sem, x0, x1, x2, x3]) rfl ⟨oa, oc, da, dc, rfl, (HO.out _ (by simp) (fun k hk => ?_)).mono (by omega), (HD.out _ (by simp) (fun k hk => ?_)).mono (by omega), ?_, HOC.out, HOL.out.1, HOL.out.2⟩
    · have hn : k ≠ w.heap.size + 1 := by omega
      show (((((w3.setCell ⟨w.heap.size + 1, 0, none⟩ (.int .i64 F.en)).setCell ⟨w.heap.size + 1, 1, none⟩ (.slice oa F.out.length oc)).setCell ⟨w.heap.size + 1, 2, none⟩ (.slice da F.data.length dc)).setCell ⟨w.heap.size + 1, 3, none⟩ (.int .i64 F.ticks)).heap)[k]? = _
      rw [Below.heap_setCell _ _ _ k hn, Below.heap_setCell _ _ _ k hn, Below.heap_setCell _ _ _ k hn, Below.heap_setCell _ _ _ k hn]
    · have hn : k ≠ w.heap.size + 1 := by omega
      show (((((w3.setCell ⟨w.heap.size + 1, 0, none⟩ (.int .i64 F.en)).setCell ⟨w.heap.size + 1, 1, none⟩ (.slice oa F.out.length oc)).setCell ⟨w.heap.size + 1, 2, none⟩ (.slice da F.data.length dc)).setCell ⟨w.heap.size + 1, 3, none⟩ (.int .i64 F.ticks)).heap)[k]? = _
      rw [Below.heap_setCell _ _ _ k hn, Below.heap_setCell _ _ _ k hn, Below.heap_setCell _ _ _ k hn, Below.heap_setCell _ _ _ k hn]
    · have hb := HB1.out.trans (HB3.out.mono (B' := w.heap.size) (by omega))
      exact ((((hb.setCell (p := ⟨w.heap.size + 1, 0, none⟩) (Nat.le_succ _) _).setCell (p := ⟨w.heap.size + 1, 1, none⟩) (Nat.le_succ _) _).setCell (p := ⟨w.heap.size + 1, 2, none⟩) (Nat.le_succ _) _).setCell (p := ⟨w.heap.size + 1, 3, none⟩) (Nat.le_succ _) _).drew
  · have HE : Hid (ansR code d inp ticks steps = ⟨0, [], [], 0, 0, errR code d inp.length ticks steps⟩) := if_neg h0
    rw [HE.out]
    simp only [List.length_nil]
    have hb0 : (errR code d inp.length ticks steps != 0) = true := by rw [bne_iff_ne]; exact h0
    clear h0 hT hI hfit HE
    generalize errR code d inp.length ticks steps = E at *
    go_enter Try.func13, Try.ntmps13
    go_wp2_with fail
    refine (HC.out _ (HT.out.later (((Below.refl _ _).alloc (Nat.le_refl _) _).alloc (by simp) _))).mono ?_
    rintro e w1 ⟨rfl, hb1⟩
    have HB1 : Hid (Below w.heap.size w w1) := (((Below.refl _ _).alloc (Nat.le_refl _) _).alloc (by simp) _).trans (hb1.mono (by simp; omega))
    have hz1 : w.heap.size + 2 ≤ w1.heap.size := by have := hb1.size; simp at this; omega
    have hr : w1.heap[w.heap.size + 1]? = some (.cells #[.int .i64 0, .slice none 0 0, .slice none 0 0, .int .i64 0] 40) := (hb1.block (w.heap.size + 1) (by simp)).trans (by have := _root_.Go.heap_alloc_new (w.alloc (.cells #[.slice a code.length cap, .int .i64 d] 24)) (.cells #[.int .i64 0, .slice none 0 0, .slice none 0 0, .int .i64 0] 40); simpa using this)
    have HX := hid hr
    have x0 : w1.cell? ⟨w.heap.size + 1, 0, none⟩ = some (.int .i64 0) := by rw [Lib.cell_of_heap HX.out]; rfl
    have x1 : w1.cell? ⟨w.heap.size + 1, 1, none⟩ = some (.slice none 0 0) := by rw [Lib.cell_of_heap HX.out]; rfl
    have x2 : w1.cell? ⟨w.heap.size + 1, 2, none⟩ = some (.slice none 0 0) := by rw [Lib.cell_of_heap HX.out]; rfl
    have x3 : w1.cell? ⟨w.heap.size + 1, 3, none⟩ = some (.int .i64 0) := by rw [Lib.cell_of_heap HX.out]; rfl
    have xf : ∀ j, w1.frozen? ⟨w.heap.size + 1, j, none⟩ = false := fun j => Lib.frozen_of_heap HX.out j
    clear hb1 hr HC
    go_wp2_with fail
    refine bodyPost_ret (v := .tuple #[.agg #[.int .i64 0, .slice none 0 0, .slice none 0 0, .int .i64 0], .int .i64 0, .int .i64 E]) (by simp [results, Try.results13, go_sem, x0, x1, x2, x3]) rfl ⟨none, 0, none, 0, rfl, Or.inl rfl, Or.inl rfl, ?_, Nat.le_refl _, Nat.zero_le _, Nat.zero_le _⟩
    exact (((HB1.out.setCell (p := ⟨w.heap.size + 1, 0, none⟩) (Nat.le_succ _) _).setCell (p := ⟨w.heap.size + 1, 1, none⟩) (Nat.le_succ _) _).setCell (p := ⟨w.heap.size + 1, 2, none⟩) (Nat.le_succ _) _).setCell (p := ⟨w.heap.size + 1, 3, none⟩) (Nat.le_succ _) _

end Go.Proofs.Ytpahhhhfhnpmjaa
