/-
  The checker's list of blocks, and lists of names.
-/
import Derived.Test.YtndkhgakfodldaaGreatDoorCc
namespace Go.Proofs.YtndkhgakfodldaaGreatDoor
open Go.RowKit Go.Maps

abbrev Tt : Nat → Prop := fun _ => True
theorem Tryz.infoBody : (Tryz.prog.info? 25).map (fun i => (i.zero, i.size, i.bytes)) = some (some (.slice none 0 0), 1, 24) := by kernel_rfl
/- The blocks of a module, as the cells of a list tell them. -/
def Bods (w : World) (xs : List Value) (bs : List (List St)) : Prop := xs.length = bs.length ∧ ∀ i (h : i < bs.length), ∃ a c, xs[i]? = some (.slice a bs[i].length c) ∧ DAt w Tt a bs[i].length (stsD bs[i])
theorem Bods.later {w w' : World} {xs : List Value} {bs : List (List St)} (h : Bods w xs bs) (hb : Below w.heap.size w w') : Bods w' xs bs :=
  ⟨h.1, fun i hi => by obtain ⟨a, c, h1, h2⟩ := h.2 i hi; exact ⟨a, c, h1, h2.later hb⟩⟩
theorem Bods.nil (w : World) : Bods w [] [] := ⟨rfl, fun i h => by simp at h⟩
theorem Bods.snoc {w : World} {xs : List Value} {bs : List (List St)} (h : Bods w xs bs) {l : List St} {a : Option Addr} {c : Nat} (hd : DAt w Tt a l.length (stsD l)) : Bods w (xs ++ [.slice a l.length c]) (bs ++ [l]) := by
  refine ⟨by simp [h.1], fun i hi => ?_⟩
  rcases Nat.lt_or_ge i bs.length with hlt | hge
  · obtain ⟨a', c', h1, h2⟩ := h.2 i hlt
    refine ⟨a', c', ?_, ?_⟩
    · rw [List.getElem?_append_left (by rw [h.1]; exact hlt), List.getElem_append_left hlt]; exact h1
    · rw [List.getElem_append_left hlt]; exact h2
  · have : i = bs.length := by simp at hi; omega
    subst this
    refine ⟨a, c, ?_, ?_⟩
    · rw [List.getElem?_append_right (by rw [h.1]; exact Nat.le_refl _), h.1]; simp
    · simpa using hd
def BodAt (w : World) (a : Option Addr) (bs : List (List St)) : Prop := ∀ i (h : i < bs.length), ∃ b off a' c', a = some ⟨b, off, none⟩ ∧ b < w.heap.size ∧ w.cell? ⟨b, off + i, none⟩ = some (.slice a' bs[i].length c') ∧ DAt w Tt a' bs[i].length (stsD bs[i])
theorem BodAt.later {w w' : World} {a : Option Addr} {bs : List (List St)} (h : BodAt w a bs) (hb : Below w.heap.size w w') : BodAt w' a bs := fun i hi => by
  obtain ⟨b, off, a', c', h1, h2, h3, h4⟩ := h i hi
  exact ⟨b, off, a', c', h1, Nat.lt_of_lt_of_le h2 hb.size, (hb.cell (p := ⟨b, off + i, none⟩) h2).trans h3, h4.later hb⟩
theorem Bods.at {w : World} {base g n cap : Nat} {xs : List Value} {bs : List (List St)} (h : Bods w xs bs) (hown : w.ownsRow base 25 1 (.slice (some ⟨g, 0, none⟩) n cap) n xs) : BodAt w (some ⟨g, 0, none⟩) bs := by
  intro i hi
  obtain ⟨a', c', h1, h2⟩ := h.2 i hi
  have hc := hown.cells (g := g) rfl i _ h1
  have hlt := (hown.lt g rfl).2
  have e : (⟨g, 0, none⟩ : Addr).add i = ⟨g, i, none⟩ := by unfold Addr.add; split <;> simp_all
  rw [e] at hc
  exact ⟨g, 0, a', c', rfl, hlt, by rw [Nat.zero_add]; exact hc, h2⟩
theorem Blk.grown {w w' : World} {b : Nat} {cs : List Value} {row : Option Nat} (h : Blk w b cs) (hg : w.grownBy w' row) (hne : some b ≠ row) : Blk w' b cs :=
  ⟨Nat.lt_of_lt_of_le h.lt hg.size, fun j v hj => (World.cell?_of_block (w := w) (hg.block b h.lt hne)).trans (h.cell j v hj)⟩
theorem one_new (w : World) (v : Value) (t : TypeId) (n : Nat) (hn : n = w.heap.size) : ∀ j u, [v][j]? = some u → (w.alloc (.cells #[v] t)).cell? ((⟨n, 0, none⟩ : Addr).add j) = some u := by
  subst hn
  intro j u hj
  have e : (⟨w.heap.size, 0, none⟩ : Addr).add j = ⟨w.heap.size, j, none⟩ := by unfold Addr.add; split <;> simp_all
  rw [e]
  exact (Blk.new w #[v] t).cell j u hj
set_option maxRecDepth 100000 in
set_option maxHeartbeats 800000 in
theorem bodies_any (m : Mo) (v : Value) (a1 : Option Addr) (c1 : Nat) (a2 : Option Addr) (c2 : Nat) (a3 : Option Addr) (c3 : Nat) (a4 : Option Addr) (c4 : Nat) (w : World) (hM : MoAt w Tt m v a1 c1 a2 c2 a3 c3 a4 c4) :
    Calls Tryz.prog 183 #[v] w fun e w' => ∃ a cap, e = .returned (.slice a m.bodies.length cap) ∧ BodAt w' a m.bodies ∧ Below w.heap.size w w' := by
  obtain ⟨rfl, hna, hU, hDe, hP, hMa⟩ := hM
  obtain ⟨i0, hi, hz0, hz1, hz2⟩ := info_parts Tryz.infoBody
  have hbd : m.procs.length ≤ 3518437208883 := by
    have h1 := hP.2.1
    have h2 : (prsD m.procs).length = m.procs.length * 5 := by
      unfold prsD
      rw [List.length_flatMap]
      have : ∀ l : List Pr, (l.map (fun x => x.ds.length)).sum = l.length * 5 := by
        intro l
        induction l with
        | nil => rfl
        | cons x r ih => rw [List.map_cons, List.sum_cons, ih, List.length_cons]; have : x.ds.length = 5 := rfl; omega
      exact this _
    omega
  have HP : Hid (DAt w Tt a3 m.procs.length (prsD m.procs)) := hP
  have HM : Hid (DAt w Tt a4 m.main.length (stsD m.main)) := hMa
  clear hU hDe hP hMa
  go_enter Tryz.func183, Tryz.ntmps183
  go_wp2_with fail
  have HB := Blk.new w #[.string m.name, .slice a1 m.uses.length c1, .slice a2 m.decls.length c2, .slice a3 m.procs.length c3, .slice a4 m.main.length c4] 27
  go_loopw [9, 3] (fun i v wr => ∃ (j : Nat) (xs : List Value), j ≤ m.procs.length ∧ i = .int .i64 j ∧ wr.ownsRow (w.heap.size + 1) 25 1 v j xs ∧ Bods w xs ((m.procs.take j).map Pr.body) ∧ Below w.heap.size w wr ∧ Blk wr w.heap.size [.string m.name, .slice a1 m.uses.length c1, .slice a2 m.decls.length c2, .slice a3 m.procs.length c3, .slice a4 m.main.length c4]) (fun i _ _ => m.procs.length - (intOf i).toNat)
  case atStart => exact ⟨0, [], Nat.zero_le _, rfl, World.ownsRow_nil _ _ _ _, Bods.nil _, al1 _ _, HB⟩
  case round =>
    clear HB
    obtain ⟨j, xs, hj, rfl, hown, hBo, hb, hB⟩ := hrel
    have HO : Hid (wr.ownsRow (w.heap.size + 1) 25 1 u3 j xs) := hown
    have HQ : Hid (Bods w xs ((m.procs.take j).map Pr.body)) := hBo
    have HB : Hid (Blk wr w.heap.size [.string m.name, .slice a1 m.uses.length c1, .slice a2 m.decls.length c2, .slice a3 m.procs.length c3, .slice a4 m.main.length c4]) := hB
    have HL : Hid (∀ k, u3.ownBlock = some k → w.heap.size + 1 ≤ k ∧ k < wr.heap.size) := hown.lt
    obtain ⟨q0, q1, q2, q3, q4, qz⟩ := hB.c5
    clear hown hBo hB
    by_cases hlt : j < m.procs.length
    · obtain ⟨b, off, b1, d1, b2, d2, b3, d3, rfl, hx⟩ := (HP.out.later hb).pr j hlt
      have hc0 := hx.c0
      have hc1 := hx.c1
      have hc2 := hx.c2
      have hc3 := hx.c3
      have hc4 := hx.c4
      have hlb := hx.lt
      have HX : Hid (DAt w Tt b3 m.procs[j].body.length (stsD m.procs[j].body)) := by
        obtain ⟨b', off', b1', d1', b2', d2', b3', d3', e, hx'⟩ := HP.out.pr j hlt
        injection e with e
        injection e with e1 e2
        subst e1
        subst e2
        have h4 := (hb.cell (p := ⟨b, off + j * 5 + 4, none⟩) hx'.lt).trans hx'.c4
        rw [hx.c4] at h4
        injection h4 with h4
        injection h4 with h4 _ _
        subst h4
        exact hx'.body
      have HS : Hid ((m.procs.take (j + 1)).map Pr.body = (m.procs.take j).map Pr.body ++ [m.procs[j].body]) := by
        show _ = _
        rw [List.take_succ_eq_append_getElem hlt, List.map_append]; rfl
      clear hx
      go_wp2_with (at_builtin; refine wpList_append_lies _ rfl _ _ 271 rfl (w.heap.size + 1) 25 i0 _ 1 24 Tryz.underlying271 hi hz0 hz1 hz2 rfl (by decide) _ j xs rfl ((HO.out.alloc _).alloc _) _ 1 1 [.slice b3 m.procs[j].body.length d3] rfl rfl (one_new _ _ _ _ (by simp)) (by simp [Value.oneCell']) (by omega) (by unfold maxLen; omega) (by omega) (by simp; omega) _ rfl ?_; intro g cp w2 hown2 hg2 hat2 hlt2)
      have hg : wr.grownBy w2 u3.ownBlock := ((World.grownBy_alloc wr _ _).trans (World.grownBy_alloc _ _ _)).trans hg2
      have hb2 : Below w.heap.size w w2 := hb.grown hg hb.size (fun k hk => by have := (HL.out k hk).1; omega)
      have K2 := HB.out.grown hg (fun e => by have := (HL.out _ e.symm).1; omega)
      clear hg2 hat2 hg
      go_roundw
      case rel => exact ⟨j + 1, xs ++ [.slice b3 m.procs[j].body.length d3], by omega, by go_num, hown2, by rw [HS.out]; exact HQ.out.snoc HX.out, hb2, K2⟩
      case measure => simp [intOf]; omega
    · have hje : j = m.procs.length := by omega
      subst hje
      have HS : Hid (m.bodies = (m.procs.take m.procs.length).map Pr.body ++ [m.main]) := by show _ = _; rw [List.take_length]; rfl
      have HN : Hid (m.bodies.length = m.procs.length + 1) := by show _ = _; simp [Mo.bodies]
      go_wp2_with (at_builtin; refine wpList_append_lies _ rfl _ _ 271 rfl (w.heap.size + 1) 25 i0 _ 1 24 Tryz.underlying271 hi hz0 hz1 hz2 rfl (by decide) _ m.procs.length xs rfl (HO.out.alloc _) _ 1 1 [.slice a4 m.main.length c4] rfl rfl (one_new _ _ _ _ (by simp)) (by simp [Value.oneCell']) (by omega) (by unfold maxLen; omega) (by omega) (by simp; omega) _ rfl ?_; intro g cp w2 hown2 hg2 hat2 hlt2)
      have hg : wr.grownBy w2 u3.ownBlock := (World.grownBy_alloc wr _ _).trans hg2
      have hb2 : Below w.heap.size w w2 := hb.grown hg hb.size (fun k hk => by have := (HL.out k hk).1; omega)
      clear hg2 hat2 hg
      go_ret
      refine ⟨some ⟨g, 0, none⟩, cp, ?_, ?_, hb2⟩
      · rw [HN.out]; rfl
      have := (HQ.out.snoc (c := c4) HM.out).later hb2
      rw [HS.out]
      exact this.at hown2
set_option maxRecDepth 100000 in
set_option maxHeartbeats 400000 in
theorem notName_any (s : ByteArray) (w : World) (hs : s.size ≤ maxLen) :
    Calls Tryz.prog 240 #[.string s] w fun e w' => e = .returned (.bool (!nameOk s)) ∧ Below w.heap.size w w' := by
  go_enter Tryz.func240, Tryz.ntmps240
  go_wp2_with (go_at_call 186; refine (tName_any s _ hs).mono ?_; rintro e w' ⟨rfl, hb⟩)
  go_ret
  exact ⟨rfl, hb⟩
set_option maxRecDepth 100000 in
set_option maxHeartbeats 800000 in
theorem indexNames_any (l : List ByteArray) (a : Option Addr) (cap : Nat) (w : World) (hD : DAt w Tt a l.length (strsD l)) :
    Calls Tryz.prog 279 #[.slice a l.length cap, .func (.func 240) #[] #[]] w fun e w' => ∃ n : Int, e = .returned (.int .i64 n) ∧ decide (0 ≤ n) = !l.all nameOk ∧ Below w.heap.size w w' := by
  have hbd := hD.bound
  have HD : Hid (DAt w Tt a l.length (strsD l)) := hD
  clear hD
  go_enter Tryz.func279, Tryz.ntmps279
  go_wp2_with fail
  go_loopw [8] (fun i wr => ∃ j : Nat, j ≤ l.length ∧ i = .int .i64 j ∧ (l.take j).all nameOk = true ∧ Below w.heap.size w wr) (fun i _ => l.length - (intOf i).toNat)
  case atStart => exact ⟨0, Nat.zero_le _, rfl, rfl, Below.refl _ _⟩
  case round =>
    obtain ⟨j, hj, rfl, hall, hb⟩ := hrel
    have HA : Hid ((l.take j).all nameOk = true) := hall
    clear hall
    by_cases hlt : j < l.length
    · obtain ⟨b, off, rfl, hlb, hc, hsz⟩ := (HD.out.later hb).str j hlt
      go_wp2_with fail
      refine (notName_any l[j] _ hsz).mono ?_
      cases hn : nameOk l[j] with
      | false =>
        have HF : Hid (l.all nameOk = false) := all_not l _ j hlt hn
        rintro e w3 ⟨rfl, hb3⟩
        go_wp2_with fail
        go_ret
        exact ⟨j, rfl, by rw [HF.out]; simp, thenB hb hb3⟩
      | true =>
        have HT : Hid ((l.take (j + 1)).all nameOk = true) := by
          show _ = _
          rw [all_snoc l _ j hlt, HA.out, hn]; rfl
        rintro e w3 ⟨rfl, hb3⟩
        go_wp2_with fail
        go_roundw
        case rel => exact ⟨j + 1, by omega, by go_num, HT.out, thenB hb hb3⟩
        case measure => simp [intOf]; omega
    · have HT : Hid (l.all nameOk = true) := all_end HA.out hlt
      go_wp2_with fail
      go_ret
      exact ⟨-1, rfl, by rw [HT.out]; rfl, hb⟩
set_option maxRecDepth 100000 in
set_option maxHeartbeats 400000 in
theorem areNames_any (l : List ByteArray) (a : Option Addr) (cap : Nat) (w : World) (hD : DAt w Tt a l.length (strsD l)) :
    Calls Tryz.prog 187 #[.slice a l.length cap] w fun e w' => e = .returned (.bool (l.all nameOk)) ∧ Below w.heap.size w w' := by
  have HC : Hid (Calls Tryz.prog 239 #[.slice a l.length cap, .func (.func 240) #[] #[]] w fun e w' => e = .returned (.bool (!l.all nameOk)) ∧ Below w.heap.size w w') := by
    have HI : Hid (Calls Tryz.prog 279 #[.slice a l.length cap, .func (.func 240) #[] #[]] w fun e w' => ∃ n : Int, e = .returned (.int .i64 n) ∧ decide (0 ≤ n) = !l.all nameOk ∧ Below w.heap.size w w') := indexNames_any l a cap w hD
    clear hD
    show Calls _ _ _ _ _
    go_enter Tryz.func239, Tryz.ntmps239
    go_wp2_with (go_at_call 279; refine HI.out.mono ?_; rintro e w' ⟨n, rfl, hn, hb⟩)
    go_ret
    exact ⟨rfl, hb⟩
  clear hD
  go_enter Tryz.func187, Tryz.ntmps187
  go_wp2_with (go_at_call 239; refine HC.out.mono ?_; rintro e w' ⟨rfl, hb⟩)
  go_ret
  exact ⟨ret_bool (by simp), hb⟩
end Go.Proofs.YtndkhgakfodldaaGreatDoor
