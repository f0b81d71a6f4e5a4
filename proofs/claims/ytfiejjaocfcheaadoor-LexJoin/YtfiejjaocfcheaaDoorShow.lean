/-
  The program's Show answers what the document says: Check's errors, or the tokens with one blank between each two.
-/
import Derived.Test.YtfiejjaocfcheaaDoorText
namespace Go.Proofs.YtfiejjaocfcheaaDoor
open Go.RowKit

theorem lt_of_heap {w : World} {b : Nat} {o : Obj} (h : w.heap[b]? = some o) : b < w.heap.size := by
  rcases Nat.lt_or_ge b w.heap.size with h' | h'
  · exact h'
  · simp [Array.getElem?_eq_none h'] at h
theorem builderF_later {T e : TypeId} {B b : Nat} {bs : List Value} {W W' : World} (h : Lib.IsBuilderF T e B b bs W) (hb : Below W.heap.size W W') : Lib.IsBuilderF T e B b bs W' := by
  have key : ∀ p, Lib.BuilderAtF T e B b p bs W → Lib.BuilderAtF T e B b p bs W' := by
    rintro p ⟨hB, v, hc, ⟨h1, h2⟩, hne⟩
    refine ⟨hB, v, (hb.block b (lt_of_heap hc)).trans hc, ⟨h1, ?_⟩, hne⟩
    rcases h2 with h2 | ⟨g, cap, cur, fz, hv, hg, hc, hrest⟩
    · exact Or.inl h2
    · exact Or.inr ⟨g, cap, cur, fz, hv, hg, (hb.block g (lt_of_heap hc)).trans hc, hrest⟩
  rcases h with h | h
  · exact Or.inl (key _ h)
  · exact Or.inr (key _ h)
theorem builder_first (ts : List Tk) (k : Nat) (hk : k < ts.length) (h0 : k = 0) : Lib.byteCells (showL (ts.take k)) ++ Lib.strCells ts[k].txt = Lib.byteCells (showL (ts.take (k + 1))) := by
  rw [txt_eq, Lib.strCells_eq, strOf_list, ← Lib.byteCells_append, show_take_snoc ts k hk, if_pos h0, List.append_nil]
theorem builder_next (ts : List Tk) (k : Nat) (hk : k < ts.length) (h0 : 0 < k) : Lib.byteCells (showL (ts.take k)) ++ [.int .u8 32] ++ Lib.strCells ts[k].txt = Lib.byteCells (showL (ts.take (k + 1))) := by
  rw [txt_eq, Lib.strCells_eq, strOf_list, show_take_snoc ts k hk, if_neg (by omega), Lib.byteCells_append, Lib.byteCells_append]
  rfl

def showR (ts : List Tk) : ByteArray := if checkN ts = 0 then strOf (showL ts) else ⟨#[]⟩
theorem checkN_zero {ts : List Tk} (h : checkN ts = 0) : Right ts ∧ ts.length ≤ 4096 := by
  unfold checkN at h
  split at h
  · split at h
    · split at h
      · omega
      · exact ⟨⟨by assumption, by assumption⟩, by omega⟩
    · omega
  · omega

set_option maxHeartbeats 1000000 in
theorem Show_any (a : Option Addr) (cap : Nat) (ts : List Tk) (w : World) (hT : ToksAt w a ts) (hl : ts.length ≤ 1000000000000000) (htab : Tab w) :
    Calls Tryd.prog 7 #[.slice a ts.length cap] w fun e w' => e = .returned (.tuple #[.string (showR ts), .int .i64 (checkN ts)]) ∧ Below w.heap.size w w' := by
  have HT : Hid (ToksAt w a ts) := hT
  clear hT
  by_cases h0 : checkN ts = 0
  · obtain ⟨hR, hl4⟩ := checkN_zero h0
    have HR : Hid (Right ts) := hR
    have HC : Hid (∀ (w : World), ToksAt w a ts → Calls Tryd.prog 11 #[.slice a ts.length cap] w fun e w' => e = .returned (.int .i64 0) ∧ Below w.heap.size w w') := fun w hT => by
      have := Check_any a cap ts w hT hl
      rw [h0] at this
      exact this
    have HE : Hid (showR ts = strOf (showL ts) ∧ checkN ts = 0) := ⟨if_pos h0, h0⟩
    clear h0 hR hl
    go_enter Tryd.func7, Tryd.ntmps7
    go_wp2_with fail
    refine (HC.out _ HT.out).mono ?_
    rintro e w1 ⟨rfl, hb1⟩
    clear HC
    go_wp2_with fail
    go_loopw [15, 6, 7] (fun i _ _ wr => ∃ k : Nat, k ≤ ts.length ∧ i = .int .i64 k ∧ Lib.IsBuilderF 39 5 w1.heap.size w1.heap.size (Lib.byteCells (showL (ts.take k))) wr ∧ Below w1.heap.size w1 wr) (fun i _ _ _ => ts.length - (intOf i).toNat)
    case atStart => exact ⟨0, Nat.zero_le _, rfl, Lib.IsBuilderF.of (Lib.fresh_isBuilder 39 5 w1), (Below.refl _ _).alloc (Nat.le_refl _) _⟩
    case round =>
      obtain ⟨k, hk, rfl, hB, hb⟩ := hrel
      by_cases hlt : k < ts.length
      · obtain ⟨b, off, rfl, hT⟩ := ((HT.out.later hb1).later hb).place hlt
        have hc0 := hT.kind k hlt
        have hc1 := hT.num k hlt
        have hc2 := hT.text k hlt
        have hlb := hT.lt
        clear hT
        have hin := HR.out.get k hlt
        have HI : Hid (ts[k].inB) := ok_inB hin.2
        have hts := txt_size hin.2
        clear hin
        have hss : (Lib.byteCells (showL (ts.take k))).length ≤ 60000 := by rw [Lib.byteCells_length]; have := show_len HR.out k hk; omega
        have HB : Hid (Lib.IsBuilderF 39 5 w1.heap.size w1.heap.size (Lib.byteCells (showL (ts.take k))) wr) := hB
        have htr : Tab wr := (htab.later hb1).later hb
        have hws : w1.heap.size < wr.heap.size := by
          rcases hB with h | h
          · exact h.lt
          · exact h.lt
        clear hB
        by_cases h0 : k = 0
        · have HS : Hid (Lib.byteCells (showL (ts.take k)) ++ Lib.strCells ts[k].txt = Lib.byteCells (showL (ts.take (k + 1)))) := builder_first ts k hlt h0
          have h0' : ¬ 0 < k := by omega
          clear h0
          generalize Lib.byteCells (showL (ts.take k)) = bs at *
          go_wp2_with fail
          refine (tokenText_any ts[k] _ HI.out ?_).mono ?_
          · exact htr.later ((Below.refl _ _).alloc (Nat.le_refl _) _)
          rintro e w3 ⟨rfl, hb3⟩
          have hB3 := builderF_later (builderF_later HB.out ((Below.refl _ _).alloc (Nat.le_refl _) (Obj.cells #[Value.int IntKind.i64 ts[k].kind, Value.int IntKind.i64 ts[k].n, Value.string ts[k].text] 41))) hb3
          have hz3 := hb3.size
          simp at hz3
          go_wp2_with fail
          refine (Tryd.Builder_WriteString_k w1.heap.size w1.heap.size bs ts[k].txt _ hB3 (by omega) (by omega)).mono ?_
          rintro e w4 ⟨rfl, hB4, hb4, hO4⟩
          clear hB3 hO4
          go_wp2_with fail
          go_roundw
          case rel => exact ⟨k + 1, by omega, by go_num, by rw [← HS.out]; exact Or.inr hB4, ((hb.alloc hb.size _).trans (hb3.mono (by simp; omega))).trans hb4⟩
          case measure => simp [intOf]; omega
        · have h0' : 0 < k := by omega
          have HS : Hid (Lib.byteCells (showL (ts.take k)) ++ [.int .u8 32] ++ Lib.strCells ts[k].txt = Lib.byteCells (showL (ts.take (k + 1)))) := builder_next ts k hlt h0'
          clear h0
          generalize Lib.byteCells (showL (ts.take k)) = bs at *
          go_wp2_with fail
          refine (Tryd.Builder_WriteByte_k w1.heap.size w1.heap.size bs 32 _ ?_ (by omega) (by simp; omega)).mono ?_
          · exact builderF_later HB.out ((Below.refl _ _).alloc (Nat.le_refl _) _)
          rintro e w2 ⟨rfl, hB2, hb2, hO2⟩
          have hh : w2.heap[wr.heap.size]? = some (Obj.cells #[Value.int IntKind.i64 ts[k].kind, Value.int IntKind.i64 ts[k].n, Value.string ts[k].text] 41) :=
            hO2 wr.heap.size _ (_root_.Go.heap_alloc_new wr _) (by simp; omega) (fun c fz h => by simp at h)
          have hd0 : w2.cell? ⟨wr.heap.size, 0, none⟩ = some (.int .i64 ts[k].kind) := by rw [Lib.cell_of_heap hh]; rfl
          have hd1 : w2.cell? ⟨wr.heap.size, 1, none⟩ = some (.int .i64 ts[k].n) := by rw [Lib.cell_of_heap hh]; rfl
          have hd2 : w2.cell? ⟨wr.heap.size, 2, none⟩ = some (.string ts[k].text) := by rw [Lib.cell_of_heap hh]; rfl
          have htb2 : Tab w2 := by
            refine ((htr.later ((Below.refl _ _).alloc (Nat.le_refl _) _)).below (B := w1.heap.size) ?_ hb2)
            exact (htab.later hb1).2
          have hz2 := hb2.size
          simp at hz2
          clear hO2 hh
          go_wp2_with fail
          refine (tokenText_any ts[k] _ HI.out htb2).mono ?_
          rintro e w3 ⟨rfl, hb3⟩
          have hB3 := builderF_later (Or.inr hB2) hb3
          have hz3 := hb3.size
          clear hd0 hd1 hd2
          go_wp2_with fail
          refine (Tryd.Builder_WriteString_k w1.heap.size w1.heap.size (bs ++ [.int .u8 32]) ts[k].txt _ hB3 (by rw [List.length_append]; simp only [List.length_cons, List.length_nil]; omega) (by omega)).mono ?_
          rintro e w4 ⟨rfl, hB4, hb4, hO4⟩
          clear hB3 hO4
          go_wp2_with fail
          go_roundw
          case rel => exact ⟨k + 1, by omega, by go_num, by rw [← HS.out]; exact Or.inr hB4, (((hb.alloc hb.size _).trans hb2).trans (hb3.mono (by omega))).trans hb4⟩
          case measure => simp [intOf]; omega
      · have HF : Hid (showL (ts.take k) = showL ts) := by show showL _ = _; rw [List.take_of_length_le (by omega)]
        go_wp2_with fail
        refine (Tryd.Builder_String_any_k w1.heap.size w1.heap.size (showL (ts.take k)) _ hB hb.size).mono ?_
        rintro e w5 ⟨rfl, hB5, hb5, hO5⟩
        clear hB5 hO5 hB
        go_wp2_with fail
        go_ret2
        exact ⟨by rw [HE.out.1, HE.out.2, ← HF.out]; rfl, hb1.trans ((hb.trans hb5).mono hb1.size)⟩
  · have HC : Hid (Calls Tryd.prog 11 #[.slice a ts.length cap] w fun e w' => e = .returned (.int .i64 (checkN ts)) ∧ Below w.heap.size w w') := Check_any a cap ts w HT.out hl
    have HE : Hid (showR ts = ⟨#[]⟩) := if_neg h0
    have hne : (checkN ts != 0) = true := by rw [bne_iff_ne]; exact h0
    clear h0
    generalize checkN ts = N at *
    go_enter Tryd.func7, Tryd.ntmps7
    go_wp2_with fail
    refine HC.out.mono ?_
    rintro e w1 ⟨rfl, hb1⟩
    clear HC
    go_wp2_with fail
    go_ret2
    exact ⟨by rw [HE.out]; rfl, hb1⟩

end Go.Proofs.YtfiejjaocfcheaaDoor
