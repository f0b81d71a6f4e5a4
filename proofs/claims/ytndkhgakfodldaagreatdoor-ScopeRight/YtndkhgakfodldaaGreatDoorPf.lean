/-
  Expressions are read as the grammar says: the step, and all of it.
-/
import Derived.Test.YtndkhgakfodldaaGreatDoorPd
namespace Go.Proofs.YtndkhgakfodldaaGreatDoor
open Go.RowKit

abbrev exZero : Obj := .cells #[.int .i64 0, .int .i64 0, .string ⟨#[]⟩, .string ⟨#[]⟩, .slice none 0 0] 174 (0, 0)
/- the answer is stored into the block that was made for it, and handed back -/
theorem ex_end {R cap : Nat} {a : Option Addr} {ts l l' : List Tk} {w w1 : World} {r : Option (Ex × List Tk)} {x : Ex} {a1 : Option Addr} {c1 : Nat} (h0 : Rd R a cap ts w l) (hr : r = some (x, l')) (hk : Keeps R w w1) (hrd : Rd R a cap ts w1 l')
    (hx1 : x.mod.size ≤ maxLen) (hx2 : x.name.size ≤ maxLen) {lo : Nat} (hx : EAt w1 (lo ≤ ·) a1 x.args.length (exsD x.args)) (hlo : w.heap.size < lo) :
    PEnd R a cap ts w r (ExRep (w.heap.size ≤ ·)) (.returned (.agg #[.int .i64 x.op, .int .i64 x.n, .string x.mod, .string x.name, .slice a1 x.args.length c1])) (set5 w1 w.heap.size (.int .i64 x.op) (.int .i64 x.n) (.string x.mod) (.string x.name) (.slice a1 x.args.length c1)) := by
  refine ⟨hk.set5 (Nat.le_refl _) _ _ _ _ _, Or.inr ⟨x, l', _, hr, rfl, ⟨a1, c1, rfl, hx1, hx2, ?_⟩, hrd.set5 h0 (Nat.le_refl _) _ _ _ _ _⟩⟩
  exact hx.moves (((Moves.refl w1 (lo ≤ ·)).set5 (by intro b _ hb; omega) _ _ _ _ _).to (by omega))

theorem ex_end1 {R cap : Nat} {a : Option Addr} {ts l l' : List Tk} {w w1 : World} {r : Option (Ex × List Tk)} {op n : Int} {mod name : ByteArray} {y : Ex} {a1 : Option Addr} {c1 : Nat} (h0 : Rd R a cap ts w l) (hr : r = some (.mk op n mod name [y], l')) (hk : Keeps R w w1) (hrd : Rd R a cap ts w1 l')
    (hx1 : mod.size ≤ maxLen) (hx2 : name.size ≤ maxLen) {lo : Nat} (hy1 : y.mod.size ≤ maxLen) (hy2 : y.name.size ≤ maxLen) (hy : EAt w1 (lo ≤ ·) a1 y.args.length (exsD y.args)) (hlo : w.heap.size < lo) (hlo1 : lo ≤ w1.heap.size) :
    PEnd R a cap ts w r (ExRep (w.heap.size ≤ ·)) (.returned (.agg #[.int .i64 op, .int .i64 n, .string mod, .string name, .slice (some ⟨w1.heap.size, 0, none⟩) 1 1])) ((set5 w1 w.heap.size (.int .i64 op) (.int .i64 n) (.string mod) (.string name) (.slice (some ⟨w1.heap.size, 0, none⟩) 1 1)).alloc (.cells #[.int .i64 y.op, .int .i64 y.n, .string y.mod, .string y.name, .slice a1 y.args.length c1] 174)) := by
  refine ⟨(hk.set5 (Nat.le_refl _) _ _ _ _ _).alloc _, Or.inr ⟨.mk op n mod name [y], l', _, hr, rfl, ⟨_, _, rfl, hx1, hx2, ?_⟩, (hrd.set5 h0 (Nat.le_refl _) _ _ _ _ _).alloc _⟩⟩
  refine ex_one (t := 174) (cap := c1) hy1 hy2 hy ((((Moves.refl w1 (lo ≤ ·)).set5 (b := w.heap.size) (by intro b _ hb; omega) _ _ _ _ _).alloc _).to (by omega)) ?_ (by omega)
  have e := heap_newP (set5 w1 w.heap.size (.int .i64 op) (.int .i64 n) (.string mod) (.string name) (.slice (some ⟨w1.heap.size, 0, none⟩) 1 1)) (.cells #[.int .i64 y.op, .int .i64 y.n, .string y.mod, .string y.name, .slice a1 y.args.length c1] 174)
  simp only [World.size_setCell] at e
  exact e

set_option maxRecDepth 100000 in
set_option maxHeartbeats 3200000 in
theorem expr_step (R cap : Nat) (a : Option Addr) (ts : List Tk) (f : Nat) (IH : ExC R cap a ts f) (l : List Tk) (w : World) (h : Rd R a cap ts w l) (hf : 3 * l.length + 1 ≤ f + 1) :
    Calls Tryz.prog 283 #[.pointer (some ⟨R, 0, none⟩)] w (PEnd R a cap ts w (pExpr (f + 1) l) (ExRep (w.heap.size ≤ ·))) := by
  have HI : Hid (ExC R cap a ts f) := IH
  have HR : Hid (Rd R a cap ts w l) := h
  have hRw := h.lt
  have hf0 := tok_f0 (hd l).kind (hd l).n (hd l).text
  clear IH h
  go_enter Tryz.func283, Tryz.ntmps283
  go_wp2_with fail
  refine (ahead0 R cap a ts l _ (HR.out.alloc _)).mono ?_
  rintro e w1 ⟨rfl, hb1⟩
  have HR1 : Hid (Rd R a cap ts w1 l) := (HR.out.alloc _).later hb1
  have HK1 : Hid (Keeps R w w1) := ((Keeps.refl R w).alloc _).later hb1
  have HB1 : Hid (w1.heap[w.heap.size]? = some exZero) := (hb1.block w.heap.size (by simp)).trans (heap_newP _ _)
  have hz1 := hb1.size
  simp at hz1
  clear hb1
  by_cases hk : (hd l).kind = 2
  · have HP : Hid (pExpr (f + 1) l = some (.mk 1 (hd l).n ⟨#[]⟩ ⟨#[]⟩ [], l.tail)) := by show pExpr (f + 1) l = _; unfold pExpr; rw [if_pos hk]
    have HQ : Hid (pNum l = some ((hd l).n, l.tail)) := by show pNum l = _; unfold pNum; rw [if_pos hk]
    have hf0' := tok_f0 2 (hd l).n (hd l).text
    go_wp2_with fail
    refine (number_any' R cap a ts l w1 HR1.out).mono ?_
    rintro e w2 ⟨HK2, ⟨hn, rfl⟩ | ⟨n, l2, v, hn, rfl, rfl, HR2⟩⟩
    · rw [HQ.out] at hn; cases hn
    rw [HQ.out] at hn
    obtain ⟨rfl, rfl⟩ := Prod.mk.inj (Option.some.inj hn)
    have HB2 : Hid (w2.heap[w.heap.size]? = some exZero) := (HK2.block w.heap.size (by omega) (by omega)).trans HB1.out
    obtain ⟨h0, h1, h2, h3, h4, h5⟩ := cellsOf5 HB2.out
    have hz2 := HK2.size
    have hq0 : w.heap.size < w2.heap.size := by omega
    have HF : Hid (PEnd R a cap ts w (pExpr (f + 1) l) (ExRep (w.heap.size ≤ ·)) (.returned (.agg #[.int .i64 1, .int .i64 (hd l).n, .string ⟨#[]⟩, .string ⟨#[]⟩, .slice none 0 0])) (set5 w2 w.heap.size (.int .i64 1) (.int .i64 (hd l).n) (.string ⟨#[]⟩) (.string ⟨#[]⟩) (.slice none 0 0))) :=
      ex_end (x := .mk 1 (hd l).n ⟨#[]⟩ ⟨#[]⟩ []) HR.out HP.out (HK1.out.trans HK2) HR2 (Nat.zero_le _) (Nat.zero_le _) (lo := w2.heap.size) (Or.inl rfl) hq0
    clear hn HR2 HK2
    go_wp2_with fail
    refine bodyPost_ret (v := .agg #[.int .i64 1, .int .i64 (hd l).n, .string ⟨#[]⟩, .string ⟨#[]⟩, .slice none 0 0]) (by simp [results, Tryz.results283, go_sem, h0, h1, h2, h3, h4]) rfl HF.out
  go_wp2_with fail
  by_cases hs2 : skB l tIn = true
  · refine (skip_yes R cap a ts l tIn w1 (by decide) HR1.out hs2).mono ?_
    rintro e w2 ⟨rfl, HR2, HK2⟩
    have HB2 : Hid (w2.heap[w.heap.size]? = some exZero) := (HK2.block w.heap.size (by omega) (by omega)).trans HB1.out
    obtain ⟨h0, h1, h2, h3, h4, h5⟩ := cellsOf5 HB2.out
    have hz2 := HK2.size
    have hq0 : w.heap.size < w2.heap.size := by omega
    have HF : Hid (PEnd R a cap ts w (pExpr (f + 1) l) (ExRep (w.heap.size ≤ ·)) (.returned (.agg #[.int .i64 2, .int .i64 0, .string ⟨#[]⟩, .string ⟨#[]⟩, .slice none 0 0])) (set5 w2 w.heap.size (.int .i64 2) (.int .i64 0) (.string ⟨#[]⟩) (.string ⟨#[]⟩) (.slice none 0 0))) :=
      ex_end (x := .mk 2 0 ⟨#[]⟩ ⟨#[]⟩ []) HR.out (by unfold pExpr; rw [if_neg hk, if_pos hs2]) (HK1.out.trans HK2) HR2 (Nat.zero_le _) (Nat.zero_le _) (lo := w2.heap.size) (Or.inl rfl) hq0
    clear HR2 HK2
    go_wp2_with fail
    refine bodyPost_ret (v := .agg #[.int .i64 2, .int .i64 0, .string ⟨#[]⟩, .string ⟨#[]⟩, .slice none 0 0]) (by simp [results, Tryz.results283, go_sem, h0, h1, h2, h3, h4]) rfl HF.out
  refine (skip_no R cap a ts l tIn w1 HR1.out (by simpa using hs2)).mono ?_
  rintro e w2 ⟨rfl, HR2, HK2⟩
  have HR2' : Hid (Rd R a cap ts w2 l) := HR2
  have HK2' : Hid (Keeps R w w2) := HK1.out.trans HK2
  have HB2 : Hid (w2.heap[w.heap.size]? = some exZero) := (HK2.block w.heap.size (by omega) (by omega)).trans HB1.out
  have hz2 := HK2.size
  clear HR2 HK2 HR1 HK1 HB1
  go_wp2_with fail
  by_cases hs3 : skB l tNot = true
  · have hl3 := skB_lt (by decide) hs3
    refine (skip_yes R cap a ts l tNot w2 (by decide) HR2'.out hs3).mono ?_
    rintro e w3 ⟨rfl, HR3, HK3⟩
    have hz3 := HK3.size
    have HB3 : Hid (w3.heap[w.heap.size]? = some exZero) := (HK3.block w.heap.size (by omega) (by omega)).trans HB2.out
    go_wp2_with fail
    refine (HI.out.expr l.tail w3 HR3 (by omega)).mono ?_
    rintro e w4 ⟨HK4, ⟨hn, rfl⟩ | ⟨y, l4, v, hn, rfl, ⟨a4, c4, rfl, hy1, hy2, hy3⟩, HR4⟩⟩
    · exact ⟨rfl, (HK2'.out.trans HK3).trans HK4, Or.inl ⟨by unfold pExpr; rw [if_neg hk, if_neg hs2, if_pos hs3, hn], rfl⟩⟩
    have HB4 : Hid (w4.heap[w.heap.size]? = some exZero) := (HK4.block w.heap.size (by omega) (by omega)).trans HB3.out
    obtain ⟨h0, h1, h2, h3, h4, h5⟩ := cellsOf5 HB4.out
    have hz4 := HK4.size
    have hq0 : w.heap.size < w4.heap.size := by omega
    have HF : Hid (PEnd R a cap ts w (pExpr (f + 1) l) (ExRep (w.heap.size ≤ ·)) (.returned (.agg #[.int .i64 6, .int .i64 0, .string ⟨#[]⟩, .string ⟨#[]⟩, .slice (some ⟨w4.heap.size, 0, none⟩) 1 1])) ((set5 w4 w.heap.size (.int .i64 6) (.int .i64 0) (.string ⟨#[]⟩) (.string ⟨#[]⟩) (.slice (some ⟨w4.heap.size, 0, none⟩) 1 1)).alloc (.cells #[.int .i64 y.op, .int .i64 y.n, .string y.mod, .string y.name, .slice a4 y.args.length c4] 174))) :=
      ex_end1 HR.out (by unfold pExpr; rw [if_neg hk, if_neg hs2, if_pos hs3, hn]) ((HK2'.out.trans HK3).trans HK4) HR4 (Nat.zero_le _) (Nat.zero_le _) hy1 hy2 hy3 (by omega) hz4
    clear hn HR3 HR4 HK3 HK4 hy1 hy2 hy3
    go_wp2_with fail
    refine bodyPost_ret (v := .agg #[.int .i64 6, .int .i64 0, .string ⟨#[]⟩, .string ⟨#[]⟩, .slice (some ⟨w4.heap.size, 0, none⟩) 1 1]) (by simp [results, Tryz.results283, go_sem, h0, h1, h2, h3, h4, hq0]) rfl HF.out
  refine (skip_no R cap a ts l tNot w2 HR2'.out (by simpa using hs3)).mono ?_
  rintro e w3 ⟨rfl, HR3, HK3⟩
  have HR3' : Hid (Rd R a cap ts w3 l) := HR3
  have HK3' : Hid (Keeps R w w3) := HK2'.out.trans HK3
  have HB3 : Hid (w3.heap[w.heap.size]? = some exZero) := (HK3.block w.heap.size (by omega) (by omega)).trans HB2.out
  have hz3 := HK3.size
  clear HR3 HK3 HR2' HK2' HB2
  go_wp2_with fail
  by_cases hs4 : skB l tLp = true
  · have hl4 := skB_lt (by decide) hs4
    refine (skip_yes R cap a ts l tLp w3 (by decide) HR3'.out hs4).mono ?_
    rintro e w4 ⟨rfl, HR4, HK4⟩
    have hz4 := HK4.size
    have HB4 : Hid (w4.heap[w.heap.size]? = some exZero) := (HK4.block w.heap.size (by omega) (by omega)).trans HB3.out
    go_wp2_with fail
    refine (HI.out.pair l.tail w4 HR4 (by omega)).mono ?_
    rintro e w5 ⟨HK5, ⟨hn, rfl⟩ | ⟨y, l5, v, hn, rfl, ⟨a5, c5, rfl, hy1, hy2, hy3⟩, HR5⟩⟩
    · exact ⟨rfl, (HK3'.out.trans HK4).trans HK5, Or.inl ⟨by unfold pExpr; rw [if_neg hk, if_neg hs2, if_neg hs3, if_pos hs4, hn], rfl⟩⟩
    have HB5 : Hid (w5.heap[w.heap.size]? = some exZero) := (HK5.block w.heap.size (by omega) (by omega)).trans HB4.out
    obtain ⟨h0, h1, h2, h3, h4, h5⟩ := cellsOf5 HB5.out
    have hz5 := HK5.size
    have HF : Hid (PEnd R a cap ts w (pExpr (f + 1) l) (ExRep (w.heap.size ≤ ·)) (.returned (.agg #[.int .i64 y.op, .int .i64 y.n, .string y.mod, .string y.name, .slice a5 y.args.length c5])) (set5 w5 w.heap.size (.int .i64 y.op) (.int .i64 y.n) (.string y.mod) (.string y.name) (.slice a5 y.args.length c5))) :=
      ex_end (x := y) HR.out (by unfold pExpr; rw [if_neg hk, if_neg hs2, if_neg hs3, if_pos hs4, hn]) ((HK3'.out.trans HK4).trans HK5) HR5 hy1 hy2 (lo := w4.heap.size) hy3 (by omega)
    clear hn HR4 HR5 HK4 HK5 hy1 hy2 hy3
    go_wp2_with fail
    refine bodyPost_ret (v := .agg #[.int .i64 y.op, .int .i64 y.n, .string y.mod, .string y.name, .slice a5 y.args.length c5]) (by simp [results, Tryz.results283, go_sem, h0, h1, h2, h3, h4]) rfl HF.out
  refine (skip_no R cap a ts l tLp w3 HR3'.out (by simpa using hs4)).mono ?_
  rintro e w4 ⟨rfl, HR4, HK4⟩
  have HR4' : Hid (Rd R a cap ts w4 l) := HR4
  have HK4' : Hid (Keeps R w w4) := HK3'.out.trans HK4
  have HB4 : Hid (w4.heap[w.heap.size]? = some exZero) := (HK4.block w.heap.size (by omega) (by omega)).trans HB3.out
  have hz4 := HK4.size
  have HPX : Hid (pExpr (f + 1) l = match pRef l with
      | none => none
      | some ((m, n), l1) =>
        if skB l1 tLs then (match pExpr f l1.tail with | none => none | some (x, l2) => if skB l2 tRs then some (.mk 4 0 m n [x], l2.tail) else none)
        else if skB l1 tLp then (match pArgs f l1.tail with | none => none | some (xs, l2) => some (.mk 5 0 m n xs, l2))
        else some (.mk 3 0 m n [], l1)) := by
    show pExpr (f + 1) l = _
    conv => lhs; unfold pExpr
    rw [if_neg hk, if_neg hs2, if_neg hs3, if_neg hs4]
    rfl
  clear HR4 HK4 HR3' HK3' HB3 hk hs2 hs3 hs4
  go_wp2_with fail
  refine (ref_any R cap a ts l _ (HR4'.out.alloc _)).mono ?_
  rintro e w5 ⟨HK5, ⟨hn, rfl⟩ | ⟨⟨m, n⟩, l5, v, hn, rfl, ⟨rfl, hm, hnn⟩, HR5⟩⟩
  · exact ⟨rfl, (HK4'.out.alloc _).trans HK5, Or.inl ⟨by rw [HPX.out, hn], rfl⟩⟩
  have hl5 := pRef_lt hn
  have HPY : Hid (pExpr (f + 1) l = if skB l5 tLs then (match pExpr f l5.tail with | none => none | some (x, l2) => if skB l2 tRs then some (.mk 4 0 m n [x], l2.tail) else none)
        else if skB l5 tLp then (match pArgs f l5.tail with | none => none | some (xs, l2) => some (.mk 5 0 m n xs, l2))
        else some (.mk 3 0 m n [], l5)) := by
    show pExpr (f + 1) l = _
    rw [HPX.out, hn]
  have HR5' : Hid (Rd R a cap ts w5 l5) := HR5
  have HK5' : Hid (Keeps R w w5) := (HK4'.out.alloc _).trans HK5
  have HB5 : Hid (w5.heap[w.heap.size]? = some exZero) := (HK5.block w.heap.size (by simp; omega) (by omega)).trans (heap_old HB4.out)
  have HC5 : Hid (w5.heap[w4.heap.size]? = some (.cells #[.int .i64 3, .int .i64 0, .string ⟨#[]⟩, .string ⟨#[]⟩, .slice none 0 0] 174 (0, 0))) := (HK5.block w4.heap.size (by simp) (by omega)).trans (heap_newP _ _)
  have hz5 := HK5.size
  simp at hz5
  obtain ⟨h0, h1, h2, h3, h4, h5⟩ := cellsOf5 HC5.out
  clear hn HR5 HK5 HPX HR4' HB4 HK4'
  have HR6 : Hid (Rd R a cap ts ((w5.setCell ⟨w4.heap.size, 2, none⟩ (.string m)).setCell ⟨w4.heap.size, 3, none⟩ (.string n)) l5) := (HR5'.out.setAbove HR.out (by show _ ≤ w4.heap.size; omega) _).setAbove HR.out (by show _ ≤ w4.heap.size; omega) _
  have HK6 : Hid (Keeps R w ((w5.setCell ⟨w4.heap.size, 2, none⟩ (.string m)).setCell ⟨w4.heap.size, 3, none⟩ (.string n))) := (HK5'.out.set (by show _ ≤ w4.heap.size; omega) _).set (by show _ ≤ w4.heap.size; omega) _
  have HB6 : Hid (((w5.setCell ⟨w4.heap.size, 2, none⟩ (.string m)).setCell ⟨w4.heap.size, 3, none⟩ (.string n)).heap[w.heap.size]? = some exZero) := (heap_set_ne (by show w.heap.size ≠ w4.heap.size; omega) _).trans ((heap_set_ne (by show w.heap.size ≠ w4.heap.size; omega) _).trans HB5.out)
  have HC6 : Hid (((w5.setCell ⟨w4.heap.size, 2, none⟩ (.string m)).setCell ⟨w4.heap.size, 3, none⟩ (.string n)).heap[w4.heap.size]? = some (.cells #[.int .i64 3, .int .i64 0, .string m, .string n, .slice none 0 0] 174 (0, 0))) := heap_set (heap_set HC5.out _) _
  have hz6 : ((w5.setCell ⟨w4.heap.size, 2, none⟩ (.string m)).setCell ⟨w4.heap.size, 3, none⟩ (.string n)).heap.size = w5.heap.size := by simp only [World.size_setCell]
  clear HR5' HK5' HB5
  go_wp2_with fail
  generalize (w5.setCell ⟨w4.heap.size, 2, none⟩ (.string m)).setCell ⟨w4.heap.size, 3, none⟩ (.string n) = w6 at *
  clear h0 h1 h2 h3 h4 h5 HC5
  by_cases hs7 : skB l5 tLs = true
  · have hl7 := skB_lt (by decide) hs7
    refine (skip_yes R cap a ts l5 tLs w6 (by decide) HR6.out hs7).mono ?_
    rintro e w7 ⟨rfl, HR7, HK7⟩
    have hz7 := HK7.size
    have HB7 : Hid (w7.heap[w.heap.size]? = some exZero) := (HK7.block w.heap.size (by omega) (by omega)).trans HB6.out
    have HC7 : Hid (w7.heap[w4.heap.size]? = some (.cells #[.int .i64 3, .int .i64 0, .string m, .string n, .slice none 0 0] 174 (0, 0))) := (HK7.block w4.heap.size (by omega) (by omega)).trans HC6.out
    obtain ⟨h0, h1, h2, h3, h4, h5⟩ := cellsOf5 HC7.out
    have HR8 : Hid (Rd R a cap ts (w7.setCell ⟨w4.heap.size, 0, none⟩ (.int .i64 4)) l5.tail) := HR7.setAbove HR.out (by show _ ≤ w4.heap.size; omega) _
    have HK8 : Hid (Keeps R w (w7.setCell ⟨w4.heap.size, 0, none⟩ (.int .i64 4))) := (HK6.out.trans HK7).set (by show _ ≤ w4.heap.size; omega) _
    have HB8 : Hid ((w7.setCell ⟨w4.heap.size, 0, none⟩ (.int .i64 4)).heap[w.heap.size]? = some exZero) := (heap_set_ne (by show w.heap.size ≠ w4.heap.size; omega) _).trans HB7.out
    have HC8 : Hid ((w7.setCell ⟨w4.heap.size, 0, none⟩ (.int .i64 4)).heap[w4.heap.size]? = some (.cells #[.int .i64 4, .int .i64 0, .string m, .string n, .slice none 0 0] 174 (0, 0))) := heap_set HC7.out _
    have hz8 : (w7.setCell ⟨w4.heap.size, 0, none⟩ (.int .i64 4)).heap.size = w7.heap.size := by simp only [World.size_setCell]
    clear HR7 HK7 HB7 HR6 HK6 HB6 HC6
    go_wp2_with fail
    generalize w7.setCell ⟨w4.heap.size, 0, none⟩ (.int .i64 4) = w8 at *
    clear h0 h1 h2 h3 h4 h5 HC7
    refine (HI.out.expr l5.tail w8 HR8.out (by omega)).mono ?_
    rintro e w9 ⟨HK9, ⟨hn, rfl⟩ | ⟨y, l9, v, hn, rfl, ⟨a9, c9, rfl, hy1, hy2, hy3⟩, HR9⟩⟩
    · exact ⟨rfl, HK8.out.trans HK9, Or.inl ⟨by rw [HPY.out, if_pos hs7, hn], rfl⟩⟩
    have hz9 := HK9.size
    have HB9 : Hid (w9.heap[w.heap.size]? = some exZero) := (HK9.block w.heap.size (by omega) (by omega)).trans HB8.out
    have HC9 : Hid (w9.heap[w4.heap.size]? = some (.cells #[.int .i64 4, .int .i64 0, .string m, .string n, .slice none 0 0] 174 (0, 0))) := (HK9.block w4.heap.size (by omega) (by omega)).trans HC8.out
    obtain ⟨h0, h1, h2, h3, h4, h5⟩ := cellsOf5 HC9.out
    have hq4 : w4.heap.size < w9.heap.size := by omega
    have HN9 : Hid (pExpr f l5.tail = some (y, l9)) := hn
    have HY9 : Hid (y.mod.size ≤ maxLen ∧ y.name.size ≤ maxLen ∧ EAt w9 (w8.heap.size ≤ ·) a9 y.args.length (exsD y.args)) := ⟨hy1, hy2, hy3⟩
    have HR9' : Hid (Rd R a cap ts w9 l9) := HR9
    have HK9' : Hid (Keeps R w w9) := HK8.out.trans HK9
    clear hn HR9 HK9 hy1 hy2 hy3 HB8 HC8 HR8 HK8
    go_wp2_with fail
    refine (must1 R cap _ a ts l9 tRs _ (by simp) ((HR9'.out.setAbove HR.out (by show _ ≤ w4.heap.size; omega) _).alloc _) (by decide)).mono ?_
    rintro e w10 ⟨HK10, ⟨hs5, rfl⟩ | ⟨hs5, rfl, HR10⟩⟩
    · exact ⟨rfl, ((HK9'.out.set (by show _ ≤ w4.heap.size; omega) _).alloc _).trans HK10, Or.inl ⟨by rw [HPY.out, if_pos hs7, HN9.out]; simp [hs5], rfl⟩⟩
    have HP : Hid (pExpr (f + 1) l = some (.mk 4 0 m n [y], l9.tail)) := by show pExpr (f + 1) l = _; rw [HPY.out, if_pos hs7, HN9.out]; simp [hs5]
    have hz10 := HK10.size
    simp at hz10
    have HB10 : Hid (w10.heap[w.heap.size]? = some exZero) := (HK10.block w.heap.size (by simp; omega) (by omega)).trans (heap_old ((heap_set_ne (by show w.heap.size ≠ w4.heap.size; omega) _).trans HB9.out))
    have HC10 : Hid (w10.heap[w4.heap.size]? = some (.cells #[.int .i64 4, .int .i64 0, .string m, .string n, .slice (some ⟨w9.heap.size, 0, none⟩) 1 1] 174 (0, 0))) := (HK10.block w4.heap.size (by simp; omega) (by omega)).trans (heap_old (heap_set HC9.out _))
    have HD10 : Hid (w10.heap[w9.heap.size]? = some (.cells #[.int .i64 y.op, .int .i64 y.n, .string y.mod, .string y.name, .slice a9 y.args.length c9] 174 (0, 0))) := (HK10.block w9.heap.size (by simp) (by omega)).trans (by
      have e := heap_newP (w9.setCell ⟨w4.heap.size, 4, none⟩ (.slice (some ⟨w9.heap.size, 0, none⟩) 1 1)) (.cells #[.int .i64 y.op, .int .i64 y.n, .string y.mod, .string y.name, .slice a9 y.args.length c9] 174)
      simp only [World.size_setCell] at e
      exact e)
    have HM10 : Moves w9 (w8.heap.size ≤ ·) w10 (w8.heap.size ≤ ·) := (((Moves.refl w9 _).set (by intro b _ hb; show b ≠ w4.heap.size; omega) _).alloc _).keeps HK10 (by intro b _ hb; omega)
    have HF : Hid (PEnd R a cap ts w (pExpr (f + 1) l) (ExRep (w.heap.size ≤ ·)) (.returned (.agg #[.int .i64 4, .int .i64 0, .string m, .string n, .slice (some ⟨w9.heap.size, 0, none⟩) 1 1])) (set5 w10 w.heap.size (.int .i64 4) (.int .i64 0) (.string m) (.string n) (.slice (some ⟨w9.heap.size, 0, none⟩) 1 1))) :=
      ex_end (x := .mk 4 0 m n [y]) HR.out HP.out (((HK9'.out.set (by show _ ≤ w4.heap.size; omega) _).alloc _).trans HK10) HR10 hm hnn (lo := w8.heap.size) (ex_one HY9.out.1 HY9.out.2.1 HY9.out.2.2 HM10 HD10.out (by omega)) (by omega)
    obtain ⟨h0, h1, h2, h3, h4, h5⟩ := cellsOf5 HB10.out
    obtain ⟨g0, g1, g2, g3, g4, g5⟩ := cellsOf5 HC10.out
    clear HK10 HR10 HM10
    go_wp2_with fail
    refine bodyPost_ret (v := .agg #[.int .i64 4, .int .i64 0, .string m, .string n, .slice (some ⟨w9.heap.size, 0, none⟩) 1 1]) (by simp [results, Tryz.results283, go_sem, h0, h1, h2, h3, h4]) rfl HF.out
  refine (skip_no R cap a ts l5 tLs w6 HR6.out (by simpa using hs7)).mono ?_
  rintro e w7 ⟨rfl, HR7, HK7⟩
  have hz7 := HK7.size
  have HR7' : Hid (Rd R a cap ts w7 l5) := HR7
  have HK7' : Hid (Keeps R w w7) := HK6.out.trans HK7
  have HB7 : Hid (w7.heap[w.heap.size]? = some exZero) := (HK7.block w.heap.size (by omega) (by omega)).trans HB6.out
  have HC7 : Hid (w7.heap[w4.heap.size]? = some (.cells #[.int .i64 3, .int .i64 0, .string m, .string n, .slice none 0 0] 174 (0, 0))) := (HK7.block w4.heap.size (by omega) (by omega)).trans HC6.out
  clear HR7 HK7 HR6 HK6 HB6 HC6
  go_wp2_with fail
  by_cases hs8 : skB l5 tLp = true
  · have hl8 := skB_lt (by decide) hs8
    refine (skip_yes R cap a ts l5 tLp w7 (by decide) HR7'.out hs8).mono ?_
    rintro e w8 ⟨rfl, HR8, HK8⟩
    have hz8 := HK8.size
    have HB8 : Hid (w8.heap[w.heap.size]? = some exZero) := (HK8.block w.heap.size (by omega) (by omega)).trans HB7.out
    have HC8 : Hid (w8.heap[w4.heap.size]? = some (.cells #[.int .i64 3, .int .i64 0, .string m, .string n, .slice none 0 0] 174 (0, 0))) := (HK8.block w4.heap.size (by omega) (by omega)).trans HC7.out
    obtain ⟨h0, h1, h2, h3, h4, h5⟩ := cellsOf5 HC8.out
    have HR9 : Hid (Rd R a cap ts (w8.setCell ⟨w4.heap.size, 0, none⟩ (.int .i64 5)) l5.tail) := HR8.setAbove HR.out (by show _ ≤ w4.heap.size; omega) _
    have HK9 : Hid (Keeps R w (w8.setCell ⟨w4.heap.size, 0, none⟩ (.int .i64 5))) := (HK7'.out.trans HK8).set (by show _ ≤ w4.heap.size; omega) _
    have HB9 : Hid ((w8.setCell ⟨w4.heap.size, 0, none⟩ (.int .i64 5)).heap[w.heap.size]? = some exZero) := (heap_set_ne (by show w.heap.size ≠ w4.heap.size; omega) _).trans HB8.out
    have HC9 : Hid ((w8.setCell ⟨w4.heap.size, 0, none⟩ (.int .i64 5)).heap[w4.heap.size]? = some (.cells #[.int .i64 5, .int .i64 0, .string m, .string n, .slice none 0 0] 174 (0, 0))) := heap_set HC8.out _
    have hz9 : (w8.setCell ⟨w4.heap.size, 0, none⟩ (.int .i64 5)).heap.size = w8.heap.size := by simp only [World.size_setCell]
    clear HR8 HK8 HB8 HR7' HK7' HB7 HC7
    go_wp2_with fail
    generalize w8.setCell ⟨w4.heap.size, 0, none⟩ (.int .i64 5) = w9 at *
    clear h0 h1 h2 h3 h4 h5 HC8
    refine (HI.out.args l5.tail w9 HR9.out (by omega)).mono ?_
    rintro e w10 ⟨HK10, ⟨hn, rfl⟩ | ⟨xs, l10, v, hn, rfl, ⟨a10, c10, rfl, hx10⟩, HR10⟩⟩
    · exact ⟨rfl, HK9.out.trans HK10, Or.inl ⟨by rw [HPY.out, if_neg hs7, if_pos hs8, hn], rfl⟩⟩
    have hz10 := HK10.size
    have HP : Hid (pExpr (f + 1) l = some (.mk 5 0 m n xs, l10)) := by show pExpr (f + 1) l = _; rw [HPY.out, if_neg hs7, if_pos hs8, hn]
    have HB10 : Hid (w10.heap[w.heap.size]? = some exZero) := (HK10.block w.heap.size (by omega) (by omega)).trans HB9.out
    have HC10 : Hid (w10.heap[w4.heap.size]? = some (.cells #[.int .i64 5, .int .i64 0, .string m, .string n, .slice none 0 0] 174 (0, 0))) := (HK10.block w4.heap.size (by omega) (by omega)).trans HC9.out
    have HF : Hid (PEnd R a cap ts w (pExpr (f + 1) l) (ExRep (w.heap.size ≤ ·)) (.returned (.agg #[.int .i64 5, .int .i64 0, .string m, .string n, .slice a10 xs.length c10])) (set5 (w10.setCell ⟨w4.heap.size, 4, none⟩ (.slice a10 xs.length c10)) w.heap.size (.int .i64 5) (.int .i64 0) (.string m) (.string n) (.slice a10 xs.length c10))) :=
      ex_end (x := .mk 5 0 m n xs) HR.out HP.out ((HK9.out.trans HK10).set (by show _ ≤ w4.heap.size; omega) _) (HR10.setAbove HR.out (by show _ ≤ w4.heap.size; omega) _) hm hnn (lo := w9.heap.size) (hx10.moves ((Moves.refl w10 _).set (by intro b _ hb; show b ≠ w4.heap.size; omega) _)) (by omega)
    obtain ⟨h0, h1, h2, h3, h4, h5⟩ := cellsOf5 HB10.out
    obtain ⟨g0, g1, g2, g3, g4, g5⟩ := cellsOf5 HC10.out
    have hne : w.heap.size ≠ w4.heap.size := by omega
    clear HK10 HR10 hn
    go_wp2_with fail
    refine bodyPost_ret (v := .agg #[.int .i64 5, .int .i64 0, .string m, .string n, .slice a10 xs.length c10]) (by simp [results, Tryz.results283, go_sem, h0, h1, h2, h3, h4]) rfl HF.out
  refine (skip_no R cap a ts l5 tLp w7 HR7'.out (by simpa using hs8)).mono ?_
  rintro e w8 ⟨rfl, HR8, HK8⟩
  have hz8 := HK8.size
  have HB8 : Hid (w8.heap[w.heap.size]? = some exZero) := (HK8.block w.heap.size (by omega) (by omega)).trans HB7.out
  have HC8 : Hid (w8.heap[w4.heap.size]? = some (.cells #[.int .i64 3, .int .i64 0, .string m, .string n, .slice none 0 0] 174 (0, 0))) := (HK8.block w4.heap.size (by omega) (by omega)).trans HC7.out
  have HF : Hid (PEnd R a cap ts w (pExpr (f + 1) l) (ExRep (w.heap.size ≤ ·)) (.returned (.agg #[.int .i64 3, .int .i64 0, .string m, .string n, .slice none 0 0])) (set5 w8 w.heap.size (.int .i64 3) (.int .i64 0) (.string m) (.string n) (.slice none 0 0))) :=
    ex_end (x := .mk 3 0 m n []) HR.out (by rw [HPY.out, if_neg hs7, if_neg hs8]) (HK7'.out.trans HK8) HR8 hm hnn (lo := w8.heap.size) (Or.inl rfl) (by omega)
  obtain ⟨h0, h1, h2, h3, h4, h5⟩ := cellsOf5 HB8.out
  obtain ⟨g0, g1, g2, g3, g4, g5⟩ := cellsOf5 HC8.out
  clear HK8 HR8
  go_wp2_with fail
  refine bodyPost_ret (v := .agg #[.int .i64 3, .int .i64 0, .string m, .string n, .slice none 0 0]) (by simp [results, Tryz.results283, go_sem, h0, h1, h2, h3, h4]) rfl HF.out

theorem ex_all (R cap : Nat) (a : Option Addr) (ts : List Tk) : ∀ f, ExC R cap a ts f := by
  intro f
  induction f using Nat.strongRecOn with
  | ind f ih =>
    cases f with
    | zero => exact ⟨fun _ _ _ h => by omega, fun _ _ _ h => by omega, fun _ _ _ h => by omega⟩
    | succ f =>
      exact ⟨fun l w h hf => expr_step R cap a ts f (ih f (by omega)) l w h hf, fun l w h hf => pair_step R cap a ts f (ih f (by omega)) l w h hf, fun l w h hf => args_step R cap a ts f (fun g hg => ih g (by omega)) l w h hf⟩
theorem expr_any (R cap : Nat) (a : Option Addr) (ts l : List Tk) (w : World) (h : Rd R a cap ts w l) :
    Calls Tryz.prog 283 #[.pointer (some ⟨R, 0, none⟩)] w (PEnd R a cap ts w (pX l) (ExRep (w.heap.size ≤ ·))) := (ex_all R cap a ts _).expr l w h (by omega)
theorem args_any (R cap : Nat) (a : Option Addr) (ts l : List Tk) (w : World) (h : Rd R a cap ts w l) :
    Calls Tryz.prog 295 #[.pointer (some ⟨R, 0, none⟩)] w (PEnd R a cap ts w (pAs l) (XRep (w.heap.size ≤ ·))) := (ex_all R cap a ts _).args l w h (by omega)

end Go.Proofs.YtndkhgakfodldaaGreatDoor
