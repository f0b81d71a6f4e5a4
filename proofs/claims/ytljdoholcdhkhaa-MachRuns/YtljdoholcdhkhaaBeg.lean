/-
  What must be in any case, of the machine: a little code that is run three times.
-/
import Derived.Test.YtljdoholcdhkhaaSame
namespace Go.Proofs.Ytljdoholcdhkhaa
open Go.RowKit Go.Shelf
set_option maxRecDepth 100000

def littleC : List Mc.Ins := [⟨18, 0, 0⟩, ⟨18, 0, 0⟩, ⟨10, 9, 0⟩, ⟨13, 6, 0⟩, ⟨19, 0, 0⟩, ⟨20, 0, 0⟩, ⟨14, 1, 0⟩, ⟨2, 0, 0⟩, ⟨1, 2, 0⟩, ⟨10, 11, 0⟩, ⟨15, 0, 0⟩]
def littleA : Array Value := #[.int .i64 18, .int .i64 0, .int .i64 0, .int .i64 18, .int .i64 0, .int .i64 0, .int .i64 10, .int .i64 9, .int .i64 0, .int .i64 13, .int .i64 6, .int .i64 0, .int .i64 19, .int .i64 0, .int .i64 0, .int .i64 20, .int .i64 0, .int .i64 0, .int .i64 14, .int .i64 1, .int .i64 0, .int .i64 2, .int .i64 0, .int .i64 0, .int .i64 1, .int .i64 2, .int .i64 0, .int .i64 10, .int .i64 11, .int .i64 0, .int .i64 15, .int .i64 0, .int .i64 0]
theorem little_at {w : World} {b : Nat} {t : TypeId} (h : w.heap[b]? = some (.cells littleA t (0, 0))) : ImgAt w (some ⟨b, 0, none⟩) littleC := by
  refine Or.inr ⟨b, 0, rfl, lt_of_heap h, fun i hi => ?_⟩
  have hi' : i < 11 := hi
  simp only [Lib.cell_of_heap h]
  match i, hi' with
  | 0, _ => exact ⟨rfl, rfl, rfl⟩
  | 1, _ => exact ⟨rfl, rfl, rfl⟩
  | 2, _ => exact ⟨rfl, rfl, rfl⟩
  | 3, _ => exact ⟨rfl, rfl, rfl⟩
  | 4, _ => exact ⟨rfl, rfl, rfl⟩
  | 5, _ => exact ⟨rfl, rfl, rfl⟩
  | 6, _ => exact ⟨rfl, rfl, rfl⟩
  | 7, _ => exact ⟨rfl, rfl, rfl⟩
  | 8, _ => exact ⟨rfl, rfl, rfl⟩
  | 9, _ => exact ⟨rfl, rfl, rfl⟩
  | 10, _ => exact ⟨rfl, rfl, rfl⟩

set_option maxHeartbeats 800000 in
theorem little_any (w : World) : Calls Try.prog 21 #[] w fun e w' => ∃ b, e = .returned (.agg #[.slice (some ⟨b, 0, none⟩) 11 11, .int .i64 1]) ∧ ImgAt w' (some ⟨b, 0, none⟩) littleC ∧ Below w.heap.size w w' := by
  go_enter Try.func21, Try.ntmps21
  go_wp2_with fail
  refine bodyPost_ret (v := .agg #[.slice (some ⟨w.heap.size + 1, 0, none⟩) 11 11, .int .i64 1]) (by simp [results, Try.results21, go_sem]) rfl ⟨w.heap.size + 1, rfl, little_at (t := 50) ?_, ((Below.refl _ _).alloc (Nat.le_refl _) _).alloc (by simp) _⟩
  have := _root_.Go.heap_alloc_new (w.alloc (.cells #[.slice (some ⟨w.heap.size + 1, 0, none⟩) 11 11, .int .i64 1] 24)) (.cells littleA 50)
  rw [World.size_alloc] at this
  exact this

theorem ans1 : ansR littleC 1 [3, 4] 1 99 = ⟨0, [14], [0], 1, 11, 0⟩ := by kernel_rfl
theorem ans2 : ansR littleC 1 [3, 4] 0 99 = ⟨3, [], [0], 0, 4, 0⟩ := by kernel_rfl
theorem ans3 : ansR littleC 1 [] 1 10 = ⟨7, [0], [0], 1, 10, 0⟩ := by kernel_rfl
theorem ans4 : checkI littleC 1 = 0 := by kernel_rfl

theorem little_fit : ∀ i ∈ littleC, InsFit i := by
  intro i hi
  simp only [littleC, List.mem_cons, List.not_mem_nil, or_false] at hi
  rcases hi with rfl | rfl | rfl | rfl | rfl | rfl | rfl | rfl | rfl | rfl | rfl <;> exact ⟨⟨by decide, by decide⟩, ⟨by decide, by decide⟩⟩
theorem nums_new (w : World) (l : List Int) (cs : Array Value) (t : TypeId) (h : cs.toList = ints l) : NumsAt (w.alloc (.cells cs t)) (some ⟨w.heap.size, 0, none⟩) l := by
  refine Or.inr ⟨w.heap.size, 0, rfl, by simp, fun i hi => ?_⟩
  rw [Lib.cell_of_heap (_root_.Go.heap_alloc_new w (.cells cs t)), Nat.zero_add, ← Array.getElem?_toList, h, ints_get l i hi, List.getD_eq_getElem?_getD, List.getElem?_eq_getElem hi]
  rfl

set_option maxHeartbeats 1600000 in
theorem machBegun_any (w : World) : Calls Try.prog 10 #[] w fun e w' => e = .returned (.bool true) ∧ Below w.heap.size w w' := by
  have R1 : Hid (∀ (W : World) (b n : Nat), ImgAt W (some ⟨b, 0, none⟩) littleC → n = W.heap.size → Calls Try.prog 6 #[.agg #[.slice (some ⟨b, 0, none⟩) 11 11, .int .i64 1], .slice (some ⟨n, 0, none⟩) 2 2, .int .i64 1, .int .i64 99] (W.alloc (.cells #[.int .i64 3, .int .i64 4] 3)) fun e w' =>
      ∃ oa oc da dc, e = .returned (.tuple #[.agg #[.int .i64 0, .slice oa 1 oc, .slice da 1 dc, .int .i64 1], .int .i64 11, .int .i64 0]) ∧ NumsAt w' oa [14] ∧ NumsAt w' da [0] ∧ Below W.heap.size W w') := fun W b n h e => by
    subst e
    have := Run_any (some ⟨b, 0, none⟩) (some ⟨W.heap.size, 0, none⟩) 11 2 littleC 1 [3, 4] 1 99 (W.alloc (.cells #[.int .i64 3, .int .i64 4] 3)) (h.later ((Below.refl _ _).alloc (Nat.le_refl _) _)) (by decide) little_fit (nums_new W [3, 4] _ _ rfl) (by decide) (by decide) (by unfold maxLen; omega)
    rw [ans1] at this
    exact this.mono fun e w' ⟨oa, oc, da, dc, h1, h2, h3, h4, _⟩ => ⟨oa, oc, da, dc, h1, h2.at, h3.at, ((Below.refl _ _).alloc (Nat.le_refl _) _).trans (h4.mono (by simp))⟩
  have R2 : Hid (∀ (W : World) (b n : Nat), ImgAt W (some ⟨b, 0, none⟩) littleC → n = W.heap.size → Calls Try.prog 6 #[.agg #[.slice (some ⟨b, 0, none⟩) 11 11, .int .i64 1], .slice (some ⟨n, 0, none⟩) 2 2, .int .i64 0, .int .i64 99] (W.alloc (.cells #[.int .i64 3, .int .i64 4] 3)) fun e w' =>
      ∃ oa oc da dc, e = .returned (.tuple #[.agg #[.int .i64 3, .slice oa 0 oc, .slice da 1 dc, .int .i64 0], .int .i64 4, .int .i64 0]) ∧ Below W.heap.size W w') := fun W b n h e => by
    subst e
    have := Run_any (some ⟨b, 0, none⟩) (some ⟨W.heap.size, 0, none⟩) 11 2 littleC 1 [3, 4] 0 99 (W.alloc (.cells #[.int .i64 3, .int .i64 4] 3)) (h.later ((Below.refl _ _).alloc (Nat.le_refl _) _)) (by decide) little_fit (nums_new W [3, 4] _ _ rfl) (by decide) (by decide) (by unfold maxLen; omega)
    rw [ans2] at this
    exact this.mono fun e w' ⟨oa, oc, da, dc, h1, h2, h3, h4, _⟩ => ⟨oa, oc, da, dc, h1, ((Below.refl _ _).alloc (Nat.le_refl _) _).trans (h4.mono (by simp))⟩
  have R3 : Hid (∀ (W : World) (b : Nat), ImgAt W (some ⟨b, 0, none⟩) littleC → Calls Try.prog 6 #[.agg #[.slice (some ⟨b, 0, none⟩) 11 11, .int .i64 1], .slice none 0 0, .int .i64 1, .int .i64 10] W fun e w' =>
      ∃ oa oc da dc, e = .returned (.tuple #[.agg #[.int .i64 7, .slice oa 1 oc, .slice da 1 dc, .int .i64 1], .int .i64 10, .int .i64 0]) ∧ Below W.heap.size W w') := fun W b h => by
    have := Run_any (some ⟨b, 0, none⟩) none 11 0 littleC 1 [] 1 10 W h (by decide) little_fit (Or.inl rfl) (by decide) (by decide) (by unfold maxLen; omega)
    rw [ans3] at this
    exact this.mono fun e w' ⟨oa, oc, da, dc, h1, h2, h3, h4, _⟩ => ⟨oa, oc, da, dc, h1, h4⟩
  have RC : Hid (∀ (W : World) (b : Nat), ImgAt W (some ⟨b, 0, none⟩) littleC → Calls Try.prog 11 #[.agg #[.slice (some ⟨b, 0, none⟩) 11 11, .int .i64 1]] W fun e w' => e = .returned (.int .i64 0) ∧ Below W.heap.size W w') := fun W b h => by
    have := Check_any (some ⟨b, 0, none⟩) 11 littleC 1 W h (by decide)
    rw [ans4] at this
    exact this
  go_enter Try.func10, Try.ntmps10
  go_wp2_with fail
  refine (little_any _).mono ?_
  rintro e w1 ⟨b1, rfl, hI1, hb1⟩
  have HI := hid hI1
  clear hI1
  go_wp2_with fail
  refine (R1.out _ b1 _ HI.out (by first | rfl | simp)).mono ?_
  rintro e w2 ⟨oa, oc, da, dc, rfl, hO, hD, hb2⟩
  have HO := hid hO
  have HD := hid hD
  clear hO hD HI R1
  go_wp2_with fail
  refine (little_any _).mono ?_
  rintro e w3 ⟨b3, rfl, hI3, hb3⟩
  have HI := hid hI3
  have hz3 : w2.heap.size < w3.heap.size := by have := hb3.size; simp at this; omega
  have HB3 : Hid (Below w2.heap.size w2 w3) := ((Below.refl _ _).alloc (Nat.le_refl _) _).trans (hb3.mono (by simp))
  have HX1 : Hid (w3.heap[w2.heap.size]? = some (.cells #[.int .i64 0, .slice oa 1 oc, .slice da 1 dc, .int .i64 1] 28)) := (hb3.block w2.heap.size (by simp)).trans (_root_.Go.heap_alloc_new w2 _)
  clear hI3 hb3
  go_wp2_with fail
  refine (R2.out _ b3 _ HI.out (by first | rfl | simp)).mono ?_
  rintro e w4 ⟨qa, qc, qd, qe, rfl, hb4⟩
  have hz4 := hb4.size
  have HB4 := hid hb4
  clear HI R2 hb4
  go_wp2_with fail
  refine (little_any _).mono ?_
  rintro e w5 ⟨b5, rfl, hI5, hb5⟩
  have HI := hid hI5
  have hz5 : w4.heap.size < w5.heap.size := by have := hb5.size; simp at this; omega
  have HB5 : Hid (Below w4.heap.size w4 w5) := ((Below.refl _ _).alloc (Nat.le_refl _) _).trans (hb5.mono (by simp))
  have HX2 : Hid (w5.heap[w4.heap.size]? = some (.cells #[.int .i64 3, .slice qa 0 qc, .slice qd 1 qe, .int .i64 0] 28)) := (hb5.block w4.heap.size (by simp)).trans (_root_.Go.heap_alloc_new w4 _)
  clear hI5 hb5
  go_wp2_with fail
  refine (R3.out _ b5 HI.out).mono ?_
  rintro e w6 ⟨sa, sc, sd, se, rfl, hb6⟩
  have hz6 := hb6.size
  have HB6 := hid hb6
  clear HI R3 hb6
  go_wp2_with fail
  refine (little_any _).mono ?_
  rintro e w7 ⟨b7, rfl, hI7, hb7⟩
  have HI := hid hI7
  have hz7 : w6.heap.size < w7.heap.size := by have := hb7.size; simp at this; omega
  have HB7 : Hid (Below w6.heap.size w6 w7) := ((Below.refl _ _).alloc (Nat.le_refl _) _).trans (hb7.mono (by simp))
  have HX3 : Hid (w7.heap[w6.heap.size]? = some (.cells #[.int .i64 7, .slice sa 1 sc, .slice sd 1 se, .int .i64 1] 28)) := (hb7.block w6.heap.size (by simp)).trans (_root_.Go.heap_alloc_new w6 _)
  clear hI7 hb7
  go_wp2_with fail
  refine (RC.out _ b7 HI.out).mono ?_
  rintro e w8 ⟨rfl, hb8⟩
  have hz8 := hb8.size
  have HB8 := hid hb8
  clear HI RC hb8
  have X1 : w8.heap[w2.heap.size]? = some (.cells #[.int .i64 0, .slice oa 1 oc, .slice da 1 dc, .int .i64 1] 28) :=
    (HB8.out.block _ (by omega)).trans ((HB7.out.block _ (by omega)).trans ((HB6.out.block _ (by omega)).trans ((HB5.out.block _ (by omega)).trans ((HB4.out.block _ (by omega)).trans HX1.out))))
  have r0 : w8.cell? ⟨w2.heap.size, 0, none⟩ = some (.int .i64 0) := by rw [Lib.cell_of_heap X1]; rfl
  have r1 : w8.cell? ⟨w2.heap.size, 1, none⟩ = some (.slice oa 1 oc) := by rw [Lib.cell_of_heap X1]; rfl
  have r2 : w8.cell? ⟨w2.heap.size, 2, none⟩ = some (.slice da 1 dc) := by rw [Lib.cell_of_heap X1]; rfl
  have r3 : w8.cell? ⟨w2.heap.size, 3, none⟩ = some (.int .i64 1) := by rw [Lib.cell_of_heap X1]; rfl
  have HO8 := hid (((((HO.out.later HB3.out).later HB4.out).later HB5.out).later HB6.out).later HB7.out |>.later HB8.out)
  have HD8 := hid (((((HD.out.later HB3.out).later HB4.out).later HB5.out).later HB6.out).later HB7.out |>.later HB8.out)
  have X2 : w8.heap[w4.heap.size]? = some (.cells #[.int .i64 3, .slice qa 0 qc, .slice qd 1 qe, .int .i64 0] 28) := (HB8.out.block _ (by omega)).trans ((HB7.out.block _ (by omega)).trans ((HB6.out.block _ (by omega)).trans HX2.out))
  have X3 : w8.heap[w6.heap.size]? = some (.cells #[.int .i64 7, .slice sa 1 sc, .slice sd 1 se, .int .i64 1] 28) := (HB8.out.block _ (by omega)).trans HX3.out
  have HX2' := hid X2
  have HX3' := hid X3
  have HBB : Hid (Below w.heap.size w w8) := by
    have b2 := hb1.trans (hb2.mono hb1.size)
    have b3 := b2.trans (HB3.out.mono b2.size)
    have b4 := b3.trans (HB4.out.mono b3.size)
    have b5 := b4.trans (HB5.out.mono b4.size)
    have b6 := b5.trans (HB6.out.mono b5.size)
    have b7 := b6.trans (HB7.out.mono b6.size)
    exact b7.trans (HB8.out.mono b7.size)
  have SR : Hid (∀ (n1 n2 : Nat), n1 = w8.heap.size → n2 = w8.heap.size + 1 → Calls Try.prog 12 #[.agg #[.int .i64 0, .slice oa 1 oc, .slice da 1 dc, .int .i64 1], .agg #[.int .i64 0, .slice (some ⟨n1, 0, none⟩) 1 1, .slice (some ⟨n2, 0, none⟩) 1 1, .int .i64 1]] ((w8.alloc (.cells #[.int .i64 14] 3)).alloc (.cells #[.int .i64 0] 3)) fun e w' => e = .returned (.bool true) ∧ Below w8.heap.size w8 w') := fun n1 n2 e1 e2 => by
    subst e1; subst e2
    have bb : Below w8.heap.size w8 ((w8.alloc (.cells #[.int .i64 14] 3)).alloc (.cells #[.int .i64 0] 3)) := ((Below.refl _ _).alloc (Nat.le_refl _) _).alloc (by simp) _
    have n1 : NumsAt ((w8.alloc (.cells #[.int .i64 14] 3)).alloc (.cells #[.int .i64 0] 3)) (some ⟨w8.heap.size, 0, none⟩) [14] := (nums_new w8 [14] #[.int .i64 14] 3 rfl).later ((Below.refl _ _).alloc (Nat.le_refl _) _)
    have n2 : NumsAt ((w8.alloc (.cells #[.int .i64 14] 3)).alloc (.cells #[.int .i64 0] 3)) (some ⟨w8.heap.size + 1, 0, none⟩) [0] := by
      have := nums_new (w8.alloc (.cells #[.int .i64 14] 3)) [0] #[.int .i64 0] 3 rfl
      rw [World.size_alloc] at this
      exact this
    exact (SameResults_same 0 1 oa _ da _ oc 1 dc 1 [14] [0] _ (HO8.out.later bb) n1 (HD8.out.later bb) n2 (by decide) (by decide)).mono fun e w' ⟨h1, h2⟩ => ⟨h1, bb.trans (h2.mono (by simp; omega))⟩
  clear X1 X2 X3 HO HD HO8 HD8 HX1 HX2 HX3 HB3 HB4 HB5 HB6 HB7 HB8
  go_wp2_with fail
  refine (SR.out _ _ (by first | rfl | simp) (by first | rfl | simp)).mono ?_
  rintro e w9 ⟨rfl, hb9⟩
  have q0 : w9.cell? ⟨w4.heap.size, 0, none⟩ = some (.int .i64 3) := by rw [Lib.cell_of_heap ((hb9.block _ (by omega)).trans HX2'.out)]; rfl
  have s0 : w9.cell? ⟨w6.heap.size, 0, none⟩ = some (.int .i64 7) := by rw [Lib.cell_of_heap ((hb9.block _ (by omega)).trans HX3'.out)]; rfl
  clear r0 r1 r2 r3 SR
  go_wp2_with fail
  go_ret
  exact ⟨rfl, HBB.out.trans (hb9.mono HBB.out.size)⟩

end Go.Proofs.Ytljdoholcdhkhaa
