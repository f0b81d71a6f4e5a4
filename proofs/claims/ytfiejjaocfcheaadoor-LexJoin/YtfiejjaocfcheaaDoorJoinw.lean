/-
  The statement LexJoin as a contract of its function: texts with a blank between them are read as the one's tokens, and then the other's.
-/
import Derived.Test.YtfiejjaocfcheaaDoorFour
namespace Go.Proofs.YtfiejjaocfcheaaDoor
open Go.RowKit

theorem run_append_nothing {P : Program} {w : World} (base : Nat) (t ty e : TypeId) (i : TypeInfo) (size c : Nat) (ht : P.underlying t = some (.slice e)) (hi : P.info? e = some i)
    (v : Value) (n : Nat) (xs : List Value) (hown : w.ownsRow base e size v n xs) :
    (Builtin.append_ #[t, t] ty #[v, .slice none 0 c]).run P w = .ok v w := by
  rcases hown.2 with ⟨rfl, rfl⟩ | ⟨g, cap, cur, rfl, _, _, hnc, _⟩
  · simp [Builtin.append_, run_underlying ht, Go.sizeOf, typeInfo, hi, Builtin.lenOf, Builtin.firstCells]
  · simp [Builtin.append_, run_underlying ht, Go.sizeOf, typeInfo, hi, Builtin.lenOf, Builtin.firstCells, hnc, storeCells]
theorem cellsOf_len (ts : List Tk) : (cellsOf ts).length = ts.length * 3 := by
  induction ts with
  | nil => rfl
  | cons t r ih =>
    have e : cellsOf (t :: r) = .int .i64 t.kind :: .int .i64 t.n :: .string t.text :: cellsOf r := by simp [cellsOf, tkCells]
    rw [e]; simp only [List.length_cons, ih]; omega
theorem cellsOf_one (ts : List Tk) : ∀ u ∈ cellsOf ts, u.oneCell' = true := by
  intro u hu
  unfold cellsOf at hu
  rw [List.mem_flatMap] at hu
  obtain ⟨t, _, h⟩ := hu
  exact three_one t u h
theorem toks_news {w : World} {b off : Nat} {us : List Tk} (h : TokCells w b off us) : ∀ j u, (cellsOf us)[j]? = some u → w.cell? ((⟨b, off, none⟩ : Addr).add j) = some u := by
  intro j u hj
  have hlt : j < us.length * 3 := by
    rw [← cellsOf_len]; exact (List.getElem?_eq_some_iff.1 hj).1
  have ha : (⟨b, off, none⟩ : Addr).add j = ⟨b, off + j, none⟩ := by unfold Addr.add; split <;> simp_all
  rw [ha]
  have hi : j / 3 < us.length := by omega
  have hx := cellsOf_get us (j / 3) hi
  have h3 : j % 3 = 0 ∨ j % 3 = 1 ∨ j % 3 = 2 := by omega
  rcases h3 with h3 | h3 | h3
  · have e : j = j / 3 * 3 := by omega
    have := h.kind (j / 3) hi
    rw [← e] at this hx
    rw [this, ← hx.1, hj]
  · have e : j = j / 3 * 3 + 1 := by omega
    have := h.num (j / 3) hi
    rw [Nat.add_assoc, ← e] at this
    rw [← e] at hx
    rw [this, ← hx.2.1, hj]
  · have e : j = j / 3 * 3 + 2 := by omega
    have := h.text (j / 3) hi
    rw [Nat.add_assoc, ← e] at this
    rw [← e] at hx
    rw [this, ← hx.2.2, hj]
theorem cellsOf_app (ts us : List Tk) : cellsOf (ts ++ us) = cellsOf ts ++ cellsOf us := by simp [cellsOf, List.flatMap_append]

theorem wpList_append_toks {ops : Array Oper} {rest : List Oper} {o : Oper} {a : Act} {Q : Exit → Act → World → Prop} {w : World} (hw : Region.wanted o (yielded ops a.tmps) = true) (s x : Operand)
    (ho : o.op = .call { callee := .builtin .append, args := #[s, x], argTypes := #[22, 22] }) (base : Nat) (v : Value) (ts us : List Tk) (hs : a.eval s = v) (hown : w.ownsRow base 41 3 v ts.length (cellsOf ts))
    (b : Option Addr) (c : Nat) (hx : a.eval x = .slice b us.length c) (hT : ToksAt w b us) (hlen : ts.length + us.length ≤ 10000) (hbase : base ≤ w.heap.size)
    (h : ∀ v' w', w'.ownsRow base 41 3 v' (ts ++ us).length (cellsOf (ts ++ us)) → w.grownBy w' v.ownBlock → wpList Tryd.prog ops Q rest (a.put o.dst v') w') : wpList Tryd.prog ops Q (o :: rest) a w := by
  obtain ⟨i0, hi, hz0, hz1, hz2⟩ := info_parts Tryd.info41
  refine wpList_step fun K hK => ?_
  rw [if_pos hw]
  have go : ∀ ad : Addr, b = some ad → (∀ j u, (cellsOf us)[j]? = some u → w.cell? (ad.add j) = some u) → o.wp Tryd.prog a w K Q := by
    intro ad hb hnews
    subst hb
    refine wp_append_own w s x 22 ho base 41 i0 _ 3 32 Tryd.underlying22 hi hz0 hz1 hz2 rfl (by decide) v ts.length (cellsOf ts) hs hown ad us.length c (cellsOf us) hx (cellsOf_len us) hnews (cellsOf_one us) (by unfold maxLen; omega) (by omega) hbase ?_
    intro v' w' h1 h2 _
    refine hK _ _ (h v' w' ?_ h2)
    rw [cellsOf_app, List.length_append]
    exact h1
  rcases hT with rfl | ⟨b1, off, rfl, hT⟩
  · cases b with
    | some ad => exact go ad rfl (fun j u hj => by simp [cellsOf] at hj)
    | none =>
      have hrun := run_append_nothing (P := Tryd.prog) (w := w) base 22 o.type 41 i0 3 c Tryd.underlying22 hi v ts.length (cellsOf ts) hown
      unfold Oper.wp
      simp only [List.length_nil] at hx
      simp [execOp, ho, resolve, invoke, builtin, hs, hx, hrun, Result.andThen]
      refine hK _ _ (h v w ?_ ⟨rfl, rfl, rfl, Nat.le_refl _, fun _ _ _ => rfl⟩)
      rw [List.append_nil]
      exact hown
  · exact go ⟨b1, off, none⟩ rfl (toks_news hT)

theorem allFit_of {w : World} {a : Option Addr} {ts : List Tk} (h : ToksAt w a ts) : AllFit ts := by
  rcases h with rfl | ⟨b, off, _, h⟩
  · exact AllFit.nil
  · exact h.fits
theorem lexE_zero (s : ByteArray) (h : ¬ 4096 < s.size) : (lexE s = 0 ∧ lexAt s 0 = some (lexT s)) ∨ (lexE s = 1 ∧ lexAt s 0 = none) := by
  cases hx : lexAt s 0 with
  | none => exact Or.inr ⟨(lex_no h hx).2, rfl⟩
  | some ts => exact Or.inl ⟨(lex_yes h hx).2, by rw [(lex_yes h hx).1]⟩
def joined (a b : ByteArray) : ByteArray := a ++ ⟨#[32]⟩ ++ b
theorem joined_list (a b : ByteArray) : (joined a b).data.toList = a.data.toList ++ 32 :: b.data.toList := by simp [joined]
theorem joined_size (a b : ByteArray) : (joined a b).size = a.size + 1 + b.size := by
  rw [← Lx.len_toList, joined_list, List.length_append, List.length_cons, Lx.len_toList, Lx.len_toList]; omega
theorem join_yes (a b : ByteArray) (hs : a.size + 1 + b.size ≤ 4096) (ha : lexE a = 0) (hb : lexE b = 0) : lexT (joined a b) = lexT a ++ lexT b ∧ lexE (joined a b) = 0 := by
  have hz := joined_size a b
  have h1 := (lexE_zero a (by omega)).resolve_right (fun h => by rw [ha] at h; cases h.1)
  have h2 := (lexE_zero b (by omega)).resolve_right (fun h => by rw [hb] at h; cases h.1)
  refine lex_yes (by omega) ?_
  rw [lexAt_zero] at h1 h2 ⊢
  rw [joined_list, lex_join, h1.2, h2.2]
  rfl
theorem join_no (a b : ByteArray) (hs : a.size + 1 + b.size ≤ 4096) (h : ¬ (lexE a = 0 ∧ lexE b = 0)) : lexT (joined a b) = [] ∧ lexE (joined a b) = 1 := by
  have hz := joined_size a b
  refine lex_no (by omega) ?_
  rw [lexAt_zero, joined_list, lex_join]
  rcases lexE_zero a (by omega) with h1 | h1
  · rcases lexE_zero b (by omega) with h2 | h2
    · exact absurd ⟨h1.1, h2.1⟩ h
    · rw [lexAt_zero] at h1 h2
      rw [h1.2, h2.2]; rfl
  · rw [lexAt_zero] at h1
    rw [h1.2]; rfl

set_option maxRecDepth 100000 in
set_option maxHeartbeats 1000000 in
theorem LexJoin_c (a b : ByteArray) (w : World) (ha : a.size ≤ maxLen) (hb : b.size ≤ maxLen) (htab : Tab w) :
    Calls Tryd.prog 6 #[.string a, .string b] w fun e w' => e = .returned (.bool true) ∧ Below w.heap.size w w' := by
  have H1 : Hid (∀ w : World, Calls Tryd.prog 12 #[.string a] w fun e w' => ∃ x cap, e = .returned (.tuple #[.slice x (lexT a).length cap, .int .i64 (lexE a)]) ∧ ToksAt w' x (lexT a) ∧ Below w.heap.size w w') := fun w => Lex_any a w ha
  have H2 : Hid (∀ w : World, Calls Tryd.prog 12 #[.string b] w fun e w' => ∃ x cap, e = .returned (.tuple #[.slice x (lexT b).length cap, .int .i64 (lexE b)]) ∧ ToksAt w' x (lexT b) ∧ Below w.heap.size w w') := fun w => Lex_any b w hb
  have la := lexT_len a
  have lb := lexT_len b
  unfold maxLen at ha hb
  by_cases hbig : 4096 < a.size ∨ 4096 - (a.size : Int) ≤ b.size
  · generalize lexT a = ta at *
    generalize lexT b = tb at *
    generalize lexE a = ea at *
    generalize lexE b = eb at *
    have hpart : 4096 < a.size ∨ (¬ 4096 < a.size ∧ 4096 - (a.size : Int) ≤ b.size) := by omega
    clear hbig
    rcases hpart with hp | ⟨hp, hp2⟩
    all_goals
      go_enter Tryd.func6, Tryd.ntmps6
      go_wp2_with fail
      refine (H1.out _).mono ?_
      rintro e w1 ⟨x1, c1, rfl, hT1, hb1⟩
      clear hT1
      go_wp2_with fail
      refine (H2.out _).mono ?_
      rintro e w2 ⟨x2, c2, rfl, hT2, hb2⟩
      clear hT2
      go_wp2_with fail
      refine (lexBegun_any _ ((htab.later hb1).later hb2)).mono ?_
      rintro e w3 ⟨rfl, hb3⟩
      have hbb : Below w.heap.size w w3 := bt (bt hb1 hb2) hb3
      go_wp2_with fail
      go_ret
      exact ⟨rfl, hbb⟩
  · have hp : ¬ 4096 < a.size := fun h => hbig (Or.inl h)
    have hp2 : ¬ 4096 - (a.size : Int) ≤ b.size := fun h => hbig (Or.inr h)
    clear hbig
    have hjs := joined_size a b
    by_cases hee : lexE a = 0 ∧ lexE b = 0
    · have hj := join_yes a b (by omega) hee.1 hee.2
      have H3 : Hid (∀ w : World, Calls Tryd.prog 12 #[.string (a ++ ⟨#[32]⟩ ++ b)] w fun e w' => ∃ x cap, e = .returned (.tuple #[.slice x (lexT a ++ lexT b).length cap, .int .i64 0]) ∧ ToksAt w' x (lexT a ++ lexT b) ∧ Below w.heap.size w w') := fun w => by
        have := Lex_any (joined a b) w (by unfold maxLen; omega)
        rw [hj.1, hj.2] at this
        exact this
      clear hj hjs
      rw [hee.1] at H1
      rw [hee.2] at H2
      clear hee
      generalize lexT a = ta at *
      generalize lexT b = tb at *
      go_enter Tryd.func6, Tryd.ntmps6
      go_wp2_with fail
      refine (H1.out _).mono ?_
      rintro e w1 ⟨x1, c1, rfl, hT1, hb1⟩
      have HT1 : Hid (ToksAt w1 x1 ta) := hT1
      clear hT1
      go_wp2_with fail
      refine (H2.out _).mono ?_
      rintro e w2 ⟨x2, c2, rfl, hT2, hb2⟩
      have HT2 : Hid (ToksAt w2 x2 tb) := hT2
      clear hT2
      go_wp2_with fail
      refine (H3.out _).mono ?_
      rintro e w3 ⟨x3, c3, rfl, hT3, hb3⟩
      have HT3 : Hid (ToksAt w3 x3 (ta ++ tb)) := hT3
      clear hT3
      generalize hL : (ta ++ tb).length = L at *
      have HL : Hid ((ta ++ tb).length = L) := hL
      clear hL
      go_wp2_with fail
      refine (lexBegun_any _ (((htab.later hb1).later hb2).later hb3)).mono ?_
      rintro e w4 ⟨rfl, hb4⟩
      have HA1 : Hid (ToksAt (w4.alloc (Obj.cells #[] 41)) x1 ta) := (((HT1.out.later hb2).later hb3).later hb4).later ((Below.refl _ _).alloc (Nat.le_refl _) _)
      have HB4 : Hid (ToksAt w4 x2 tb) := (HT2.out.later hb3).later hb4
      have HC4 : Hid (ToksAt w4 x3 (ta ++ tb)) := HT3.out.later hb4
      have HO : Hid ((w4.alloc (Obj.cells #[] 41)).ownsRow w4.heap.size 41 3 (.slice (some ⟨w4.heap.size, 0, none⟩) 0 0) ([] : List Tk).length (cellsOf [])) := World.ownsRow_lit w4 #[] 0 (Nat.le_refl _) (Nat.zero_le _) rfl
      have HS : Hid (∀ (w : World) (x y : Option Addr) (c c' : Nat), ToksAt w x (ta ++ tb) → ToksAt w y (ta ++ tb) → Calls Tryd.prog 14 #[.slice x L c, .slice y L c'] w fun e w' => e = .returned (.bool true) ∧ Below w.heap.size w w') := fun w x y c c' h1 h2 => by
        have := SameToks_same x y c c' (ta ++ tb) w h1 h2 (by rw [List.length_append]; omega)
        rw [HL.out] at this
        exact this
      clear HT1 HT2 HT3
      go_wp2_with (at_builtin; refine wpList_append_toks (by rfl) (.tmp 59) (.tmp 60) rfl w4.heap.size _ [] ta rfl HO.out x1 c1 rfl HA1.out (by simp only [List.length_nil]; omega) (by simp) ?_)
      intro v5 w5 hown5 hgrow5
      have hB5 : Below w4.heap.size w4 w5 := ((Below.refl _ _).alloc (Nat.le_refl _) _).grown hgrow5 (by simp) (fun k hk => (HO.out.lt k hk).1)
      have HO5 : Hid (w5.ownsRow w4.heap.size 41 3 v5 ta.length (cellsOf ta)) := hown5
      have HB5 : Hid (ToksAt w5 x2 tb) := HB4.out.later hB5
      have hz5 := hB5.size
      clear hown5 hgrow5 HO HA1
      go_wp2_with (at_builtin; refine wpList_append_toks (by rfl) (.tmp 61) (.tmp 62) rfl w4.heap.size _ ta tb rfl HO5.out x2 c2 rfl HB5.out (by omega) hz5 ?_)
      intro v6 w6 hown6 hgrow6
      have hB6 : Below w4.heap.size w4 w6 := hB5.grown hgrow6 hB5.size (fun k hk => (HO5.out.lt k hk).1)
      have hown6' : w6.ownsRow w4.heap.size 41 3 v6 (ta ++ tb).length (cellsOf (ta ++ tb)) := by rw [List.length_append]; exact hown6
      obtain ⟨x6, c6, rfl, hT6⟩ := owned_toks hown6' (allFit_of HC4.out)
      have HT6 : Hid (ToksAt w6 x6 (ta ++ tb)) := hT6
      rw [HL.out]
      clear hown6 hown6' hgrow6 hT6 HO5 HB5 hz5
      go_wp2_with fail
      refine (HS.out _ x3 x6 c3 c6 (HC4.out.later hB6) HT6.out).mono ?_
      rintro e w7 ⟨rfl, hb7⟩
      have hbb : Below w.heap.size w w7 := bt (bt (bt (bt (bt hb1 hb2) hb3) hb4) hB6) hb7
      go_wp2_with fail
      go_ret
      exact ⟨rfl, hbb⟩
    · have hj := join_no a b (by omega) hee
      have H3 : Hid (∀ w : World, Calls Tryd.prog 12 #[.string (a ++ ⟨#[32]⟩ ++ b)] w fun e w' => ∃ x cap, e = .returned (.tuple #[.slice x 0 cap, .int .i64 1]) ∧ Below w.heap.size w w') := fun w => by
        refine (Lex_any (joined a b) w (by unfold maxLen; omega)).mono ?_
        rintro e w' ⟨x, cap, rfl, _, h2⟩
        rw [hj.1, hj.2]
        exact ⟨x, cap, rfl, h2⟩
      clear hj hjs
      generalize lexT a = ta at *
      generalize lexT b = tb at *
      generalize lexE a = ea at *
      generalize lexE b = eb at *
      have hpart : (ea != 0) = true ∨ ((ea != 0) = false ∧ (eb != 0) = true) := by
        by_cases h : ea = 0
        · refine Or.inr ⟨by rw [h]; rfl, ?_⟩
          rw [bne_iff_ne]; exact fun h2 => hee ⟨h, h2⟩
        · exact Or.inl (by rw [bne_iff_ne]; exact h)
      clear hee
      rcases hpart with h1 | ⟨h1, h2⟩
      all_goals
        go_enter Tryd.func6, Tryd.ntmps6
        go_wp2_with fail
        refine (H1.out _).mono ?_
        rintro e w1 ⟨x1, c1, rfl, hT1, hb1⟩
        clear hT1
        go_wp2_with fail
        refine (H2.out _).mono ?_
        rintro e w2 ⟨x2, c2, rfl, hT2, hb2⟩
        clear hT2
        go_wp2_with fail
        refine (H3.out _).mono ?_
        rintro e w3 ⟨x3, c3, rfl, hb3⟩
        go_wp2_with fail
        refine (lexBegun_any _ (((htab.later hb1).later hb2).later hb3)).mono ?_
        rintro e w4 ⟨rfl, hb4⟩
        have hbb : Below w.heap.size w w4 := bt (bt (bt hb1 hb2) hb3) hb4
        go_wp2_with fail
        go_ret
        exact ⟨rfl, hbb⟩

end Go.Proofs.YtfiejjaocfcheaaDoor
