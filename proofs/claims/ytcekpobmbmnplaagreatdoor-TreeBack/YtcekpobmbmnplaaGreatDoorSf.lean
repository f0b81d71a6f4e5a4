/-
  The writer: statements and blocks; it stops where there are more tokens than are shown.
-/
import Derived.Test.YtcekpobmbmnplaaGreatDoorSe
namespace Go.Proofs.YtcekpobmbmnplaaGreatDoor
open Go.RowKit Go.Shelf

/- tokens that were put, or more than are shown of them -/
def Cut (d ts ts' : List Tk) : Prop := ts' = ts ++ d ∨ (4096 < ts'.length ∧ ts'.length ≤ ts.length + d.length ∧ (Right ts → Right ts'))
theorem Cut.len {d ts ts' : List Tk} (h : Cut d ts ts') : ts'.length ≤ ts.length + d.length := by
  rcases h with rfl | h
  · simp
  · exact h.2.1
theorem Cut.right {d ts ts' : List Tk} (h : Cut d ts ts') (hd : Right d) (ht : Right ts) : Right ts' := by
  rcases h with rfl | h
  · exact ht.append hd
  · exact h.2.2 ht
theorem Cut.trans2 {d d' ts t1 t2 : List Tk} (h : Cut d ts t1) (k : Cut d' t1 t2) (r : Right d) (r' : Right d') : Cut (d ++ d') ts t2 := by
  rcases h with rfl | h
  · rcases k with rfl | k
    · exact Or.inl (List.append_assoc _ _ _)
    · refine Or.inr ⟨k.1, ?_, fun ht => k.2.2 (ht.append r)⟩
      have := k.2.1
      simp only [List.length_append] at this ⊢
      omega
  · have hk := k.len
    refine Or.inr ⟨?_, ?_, fun ht => k.right r' (h.2.2 ht)⟩
    · rcases k with rfl | k
      · have := h.1
        simp only [List.length_append]
        omega
      · exact k.1
    · have := h.2.1
      simp only [List.length_append]
      omega
/- the tokens so far, with that they are right -/
def CutR (d ts ts' : List Tk) : Prop := Cut d ts ts' ∧ Right d
theorem r_put {t : ByteArray} (h : (Lx.headLet t.data.toList == Lx.nameB t.data.toList && (Lx.nameB t.data.toList || Lx.signL t.data.toList)) = true) : Right [pTk t] := by
  simp only [Bool.and_eq_true, beq_iff_eq] at h
  rw [pk h.1]
  exact r_key h.2
def WEndC (b : Nat) (ts : List Tk) (v : Value) (W : World) (d : List Tk) (e : Ending) (W' : World) : Prop := ∃ ts' v', e = .returned (.tuple #[]) ∧ Wr b ts' v' W' ∧ WK b v v' W W' ∧ Cut d ts ts'
theorem isFull_any (b : Nat) (ts : List Tk) (v : Value) (W : World) (h : Wr b ts v W) (hl : ts.length ≤ 4000000000000) :
    Calls Tryz.prog 100 #[.pointer (some ⟨b, 0, none⟩)] W fun e W' => e = .returned (.bool (decide (4096 < ts.length))) ∧ W' = W := by
  obtain ⟨c0, _⟩ := h.read
  have hlt := h.lt
  obtain ⟨a, cap, rfl⟩ := h.shape
  clear h
  go_enter Tryz.func100, Tryz.ntmps100
  go_wp2_with fail
  go_ret
  refine ⟨ret_bool ?_, rfl⟩
  by_cases h : 4096 < ts.length
  · simp [h]; try omega
  · simp [h]; try omega
/- what the writer must do with a statement, with a block -/
def WrS (s : St) : Prop := ∀ (b : Nat) (ts : List Tk) (v : Value) (W : World) (a1 a2 a3 : Option Addr) (c1 c2 c3 : Nat), Wr b ts v W → DAt W (Off b v) a1 s.args.length (exsD s.args) → DAt W (Off b v) a2 s.body.length (stsD s.body) → DAt W (Off b v) a3 s.other.length (stsD s.other) → ts.length + (tS s).length ≤ 4000000000000 →
    Calls Tryz.prog 101 #[.pointer (some ⟨b, 0, none⟩), .agg #[.int .i64 s.op, .string s.mod, .string s.name, .slice a1 s.args.length c1, .slice a2 s.body.length c2, .slice a3 s.other.length c3]] W (WEndC b ts v W (tS s))
def WrB (l : List St) : Prop := ∀ (b : Nat) (ts : List Tk) (v : Value) (W : World) (a : Option Addr) (cap : Nat), Wr b ts v W → DAt W (Off b v) a l.length (stsD l) → ts.length + (brT (tSs l)).length ≤ 4000000000000 →
    Calls Tryz.prog 62 #[.pointer (some ⟨b, 0, none⟩), .slice a l.length cap] W (WEndC b ts v W (brT (tSs l)))
theorem tSs_take (l : List St) (k : Nat) : (tSs (l.take k)).length ≤ (tSs l).length := by
  have : tSs l = tSs (l.take k) ++ tSs (l.drop k) := by rw [← tSs_append, List.take_append_drop]
  rw [this, List.length_append]; omega
theorem tSs_next {l : List St} {k : Nat} (h : k < l.length) : tSs (l.take (k + 1)) = tSs (l.take k) ++ tS l[k] := by
  rw [List.take_succ_eq_append_getElem h, tSs_append, tSs_one]
set_option maxRecDepth 100000 in
set_option maxHeartbeats 1600000 in
theorem block_w (l : List St) (hS : ∀ s ∈ l, WrS s) (hr : ∀ s ∈ l, Right (tS s)) : WrB l := by
  intro b ts v0 W a cap h hA hl
  have hbd := hA.bound
  have HS := hid hS
  have HR := hid hr
  have HA := hid hA
  have HH := hid h
  have hll : ts.length + (tSs l).length + 2 ≤ 4000000000000 := by
    unfold brT at hl
    simp only [List.length_append, List.length_cons, List.length_nil] at hl
    omega
  have HE : Hid (brT (tSs l) = [pTk tLb] ++ tSs l ++ [pTk tRb]) := by
    show _ = _
    unfold brT
    rw [pk (t := tLb) (by decide), pk (t := tRb) (by decide)]; simp
  have HRa : Hid (∀ k, Right (tSs (l.take k))) := fun k => r_sts (fun s hs => hr s (List.mem_of_mem_take hs))
  clear hS hr hA h hl
  go_enter Tryz.func62, Tryz.ntmps62
  go_wp2_with fail
  refine (put1 b _ tLb ts v0 W rfl HH.out (by decide) (by omega)).mono ?_
  rintro e W1 ⟨v1, rfl, hh, kk⟩
  have H1 := hid hh
  have K1 := hid kk
  clear hh kk HH
  go_wp2_with fail
  go_loopw [11, 5] (fun i _ wr => ∃ (k : Nat) (vr : Value) (T : List Tk), k ≤ l.length ∧ i = .int .i64 k ∧ Wr b T vr wr ∧ WK b v0 vr W wr ∧ Hid (Cut ([pTk tLb] ++ tSs (l.take k)) ts T)) (fun i _ _ => l.length - (intOf i).toNat)
  case atStart => exact ⟨0, v1, _, Nat.zero_le _, rfl, H1.out, K1.out, Or.inl (by simp [tSs])⟩
  case round =>
    clear H1 K1
    obtain ⟨k, vr, T, hk, rfl, hW, hK, HC⟩ := hrel
    have HW := hid hW
    have HK := hid hK
    have hltr := hW.lt
    have hT := HC.out.len
    have hTk := tSs_take l k
    simp only [List.length_append, List.length_cons, List.length_nil] at hT
    by_cases hkl : k < l.length
    · obtain ⟨eb, eo, e1, f1, e2, f2, e3, f3, rfl, hx⟩ := (HA.out.moves hK.moves).st k hkl
      have HXk := hid (HS.out l[k] (List.getElem_mem hkl))
      have q0 := hx.c0
      have q1 := hx.c1
      have q2 := hx.c2
      have q3 := hx.c3
      have q4 := hx.c4
      have q5 := hx.c5
      have hle := hx.lt
      have HT : Hid (tSs (l.take (k + 1)) = tSs (l.take k) ++ tS l[k]) := tSs_next hkl
      have hTn := tSs_take l (k + 1)
      rw [HT.out, List.length_append] at hTn
      obtain ⟨Wb, hWb⟩ : ∃ Wb, Wb = wr.alloc (.cells #[.int .i64 l[k].op, .string l[k].mod, .string l[k].name, .slice e1 l[k].args.length f1, .slice e2 l[k].body.length f2, .slice e3 l[k].other.length f3] 47) := ⟨_, rfl⟩
      obtain ⟨x0, x1, x2, x3, x4, x5⟩ := box6 wr (.int .i64 l[k].op) (.string l[k].mod) (.string l[k].name) (.slice e1 l[k].args.length f1) (.slice e2 l[k].body.length f2) (.slice e3 l[k].other.length f3) 47
      rw [← hWb] at x0 x1 x2 x3 x4 x5
      have HWb : Hid (Wr b T vr Wb) := by rw [hWb]; exact hW.alloc _
      have KWb : Hid (WK b vr vr wr Wb) := by rw [hWb]; exact WK.of_below (al1 _ _) b vr
      have DA : Hid (DAt Wb (Off b vr) e1 l[k].args.length (exsD l[k].args)) := by rw [hWb]; exact hx.args.moves (Moves.of_below (al1 _ _) _)
      have DB : Hid (DAt Wb (Off b vr) e2 l[k].body.length (stsD l[k].body)) := by rw [hWb]; exact hx.body.moves (Moves.of_below (al1 _ _) _)
      have DO : Hid (DAt Wb (Off b vr) e3 l[k].other.length (stsD l[k].other)) := by rw [hWb]; exact hx.other.moves (Moves.of_below (al1 _ _) _)
      have hzb : Wb.heap.size = wr.heap.size + 1 := by rw [hWb]; simp
      have hltb : b < Wb.heap.size := by omega
      have hxb : wr.heap.size < Wb.heap.size := by omega
      clear hW hK hx
      go_upto_region 4 with fail
      rw [← hWb]
      clear hWb
      go_wp2_with fail
      refine (isFull_any b T vr Wb HWb.out (by omega)).mono ?_
      cases hfu : decide (4096 < T.length) with
      | true =>
        have hfu' := of_decide_eq_true hfu
        rintro e W2 ⟨rfl, rfl⟩
        have HCe : Hid (Cut (brT (tSs l)) ts T) := Or.inr ⟨hfu', by rw [HE.out]; simp only [List.length_append, List.length_cons, List.length_nil]; omega, fun ht => HC.out.right ((r_put (by decide)).append (HRa.out k)) ht⟩
        clear hfu hfu'
        go_wp2_with fail
        go_end0
        exact ⟨T, vr, rfl, HWb.out, HK.out.trans KWb.out, HCe.out⟩
      | false =>
        rintro e W2 ⟨rfl, rfl⟩
        clear hfu
        go_wp2_with fail
        refine (HXk.out b T vr _ e1 e2 e3 f1 f2 f3 HWb.out DA.out DB.out DO.out (by omega)).mono ?_
        rintro e W3 ⟨T3, v3, rfl, hh, kk, hc⟩
        have H3 := hid hh
        have K3 := hid ((HK.out.trans KWb.out).trans kk)
        have C3 : Hid (Cut ([pTk tLb] ++ tSs (l.take (k + 1))) ts T3) := by
          show Cut _ _ _
          rw [HT.out, ← List.append_assoc]
          exact HC.out.trans2 hc ((r_put (by decide)).append (HRa.out k)) (HR.out _ (List.getElem_mem hkl))
        clear hh kk hc
        go_wp2_with fail
        go_roundw
        case rel => exact ⟨k + 1, v3, T3, by omega, by go_num, H3.out, K3.out, C3⟩
        case measure => simp [intOf]; omega
    · have hke : l.take k = l := List.take_of_length_le (by omega)
      rw [hke] at HC hT
      have HRl : Hid (Right (tSs l)) := by have := HRa.out k; rw [hke] at this; exact this
      clear hW hK
      go_wp2_with fail
      refine (put1 b _ tRb T vr wr (by omega) HW.out (by decide) (by omega)).mono ?_
      rintro e W5 ⟨v5, rfl, hh, kk⟩
      have H5 := hid hh
      have K5 := hid (HK.out.trans kk)
      have C5 : Hid (Cut (brT (tSs l)) ts (T ++ [pTk tRb])) := by
        show Cut _ _ _
        rw [HE.out]
        exact HC.out.trans2 (Or.inl rfl) ((r_put (by decide)).append HRl.out) (r_put (by decide))
      clear hh kk
      go_wp2_with fail
      go_end0
      exact ⟨_, v5, rfl, H5.out, K5.out, C5.out⟩
end Go.Proofs.YtcekpobmbmnplaaGreatDoor
