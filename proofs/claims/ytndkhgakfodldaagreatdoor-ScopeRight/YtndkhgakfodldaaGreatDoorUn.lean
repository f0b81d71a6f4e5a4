/-
  Lists of texts one behind the other: slices.Grow of nothing, slices.Concat of two; the map of a procedure's own names.
-/
import Derived.Test.YtndkhgakfodldaaGreatDoorUi
import Derived.Lib.AppendZeros
import Derived.Test.YtndkhgakfodldaaGreatDoorKh
namespace Go.Proofs.YtndkhgakfodldaaGreatDoor
open Go.RowKit Go.Maps Go.WideMaps
set_option linter.unusedSimpArgs false

def strV (l : List ByteArray) : List Value := l.map Value.string
theorem strV_append (a b : List ByteArray) : strV (a ++ b) = strV a ++ strV b := List.map_append ..
theorem strV_len (l : List ByteArray) : (strV l).length = l.length := List.length_map ..
theorem strV_one (l : List ByteArray) : ∀ u ∈ strV l, u.oneCell' = true := fun u hu => by
  obtain ⟨s, _, rfl⟩ := List.mem_map.1 hu
  rfl
theorem run_append_nothing {P : Program} {w : World} (base : Nat) (t ty e : TypeId) (i : TypeInfo) (size c : Nat) (ht : P.underlying t = some (.slice e)) (hi : P.info? e = some i)
    (v : Value) (n : Nat) (xs : List Value) (hown : w.ownsRow base e size v n xs) :
    (Builtin.append_ #[t, t] ty #[v, .slice none 0 c]).run P w = .ok v w := by
  rcases hown.2 with ⟨rfl, rfl⟩ | ⟨g, cap, cur, rfl, _, _, hnc, _⟩
  · simp [Builtin.append_, run_underlying ht, Go.sizeOf, typeInfo, hi, Builtin.lenOf, Builtin.firstCells]
  · simp [Builtin.append_, run_underlying ht, Go.sizeOf, typeInfo, hi, Builtin.lenOf, Builtin.firstCells, hnc, storeCells]
theorem run_append_strs {w : World} (base : Nat) (ty : TypeId) (v : Value) (n : Nat) (xs : List Value) (hown : w.ownsRow base 9 1 v n xs) (us : List ByteArray) (b : Option Addr) (c : Nat) (hS : Fx.StrsAt w b us) (hlen : n + us.length ≤ 10000) (hbase : base ≤ w.heap.size) :
    ∃ v' w', (Builtin.append_ #[22, 22] ty #[v, .slice b us.length c]).run Tryz.prog w = .ok v' w' ∧ w'.ownsRow base 9 1 v' (n + us.length) (xs ++ strV us) ∧ w.grownBy w' v.ownBlock := by
  obtain ⟨i0, hi, hz0, hz1, hz2⟩ := info_parts Tryz.infoP9
  have go : ∀ ad : Addr, b = some ad → (∀ j u, (strV us)[j]? = some u → w.cell? (ad.add j) = some u) → ∃ v' w', (Builtin.append_ #[22, 22] ty #[v, .slice b us.length c]).run Tryz.prog w = .ok v' w' ∧ w'.ownsRow base 9 1 v' (n + us.length) (xs ++ strV us) ∧ w.grownBy w' v.ownBlock := by
    rintro ad rfl hn
    obtain ⟨v', w', h1, h2, h3, _⟩ := run_append_own (P := Tryz.prog) (w := w) base 22 ty 9 i0 _ 1 16 Tryz.underlying22 hi hz0 hz1 hz2 rfl (by decide) v n xs hown ad us.length c (strV us) (by rw [strV_len, Nat.mul_one]) hn (strV_one us) (by unfold maxLen; omega) (by omega) hbase
    exact ⟨v', w', h1, h2, h3⟩
  rcases hS with rfl | ⟨b1, off, rfl, hb1, h⟩
  · cases b with
    | none => exact ⟨v, w, run_append_nothing base _ ty _ i0 1 c Tryz.underlying22 hi v n xs hown, by simpa [strV] using hown, ⟨rfl, rfl, rfl, Nat.le_refl _, fun _ _ _ => rfl⟩⟩
    | some ad => exact go ad rfl (fun j u hj => by simp [strV] at hj)
  · refine go _ rfl (fun j u hj => ?_)
    have hj' : j < us.length := by
      rcases Nat.lt_or_ge j us.length with h' | h'
      · exact h'
      · rw [List.getElem?_eq_none (by rw [strV_len]; exact h')] at hj; cases hj
    have e : (⟨b1, off, none⟩ : Addr).add j = ⟨b1, off + j, none⟩ := by unfold Addr.add; split <;> simp_all
    rw [e, h j hj']
    simp [strV, hj'] at hj
    rw [hj]
set_option maxRecDepth 100000 in
set_option maxHeartbeats 1600000 in
theorem grow_any (n : Nat) (w : World) (hn : n ≤ 10000) :
    Calls Tryz.prog 204 #[.slice none 0 0, .int .i64 n] w fun e w' => ∃ v, e = .returned v ∧ w'.ownsRow w.heap.size 9 1 v 0 [] ∧ Below w.heap.size w w' := by
  obtain ⟨i0, hi, hz0, hz1, hz2⟩ := info_parts Tryz.infoP9
  have hw : IntKind.i64.wrap (n : Int) = n := by simp only [IntKind.wrap, IntKind.bits, IntKind.signed]; simp; omega
  by_cases h0 : n = 0
  · subst h0
    go_enter Tryz.func204, Tryz.ntmps204
    go_wp2_with fail
    go_ret
    exact ⟨_, rfl, World.ownsRow_nil _ _ _ _, Below.refl _ _⟩
  · have hr := fun ty => Lib.run_append_nil_zeros (P := Tryz.prog) w 22 3 ty 9 i0 _ .i64 .i64 Tryz.underlying22 Tryz.underlying3 hi hz0 n (by omega) (by omega) (by omega) (by rw [hz2]; omega)
    have hge := grownCap_ge w n 0 9
    have HOw : Hid ((w.drew.alloc (.cells (Builtin.zeroCells (Value.string ⟨#[]⟩).cells n ++ Builtin.zeroCells (Value.string ⟨#[]⟩).cells (grownCap w n 0 9 - n)) 9)).ownsRow w.heap.size 9 1 (.slice (some ⟨w.heap.size, 0, none⟩) 0 (grownCap w n 0 9)) 0 []) := by
      refine ⟨rfl, Or.inr ⟨w.heap.size, _, _, rfl, Nat.le_refl _, heap_alloc_new w.drew _, Nat.zero_le _, grownCap_le_maxLen w n 0 _ (by unfold maxLen; omega), ?_, by simp⟩⟩
      rw [Array.size_append, size_zeroCells, size_zeroCells]
      show n * 1 + (grownCap w n 0 9 - n) * 1 = _
      omega
    have HBw : Hid (Below w.heap.size w (w.drew.alloc (.cells (Builtin.zeroCells (Value.string ⟨#[]⟩).cells n ++ Builtin.zeroCells (Value.string ⟨#[]⟩).cells (grownCap w n 0 9 - n)) 9))) := ((Below.refl w.heap.size w).drew).alloc (Nat.le_refl _) _
    have hpos : (0 : Int) < n := by omega
    generalize (w.drew.alloc (.cells (Builtin.zeroCells (Value.string ⟨#[]⟩).cells n ++ Builtin.zeroCells (Value.string ⟨#[]⟩).cells (grownCap w n 0 9 - n)) 9)) = w2 at *
    generalize grownCap w n 0 9 = cp at *
    have hcp : (n : Int) ≤ cp := by omega
    go_enter Tryz.func204, Tryz.ntmps204
    go_wp2_with (at_builtin; refine Lib.wpList_append_run _ rfl (.tmp 20) (.tmp 21) 22 3 rfl _ _ rfl rfl _ _ (hr _) ?_)
    go_ret
    exact ⟨_, rfl, HOw.out, HBw.out⟩
end Go.Proofs.YtndkhgakfodldaaGreatDoor

namespace Go.Proofs.YtndkhgakfodldaaGreatDoor
open Go.RowKit Go.Maps Go.WideMaps
set_option linter.unusedSimpArgs false

set_option maxRecDepth 100000 in
set_option maxHeartbeats 3200000 in
theorem concat_any (x y : List ByteArray) (a1 : Option Addr) (c1 : Nat) (a2 : Option Addr) (c2 b : Nat) (w : World) (hb : b < w.heap.size) (h0 : w.cell? ⟨b, 0, none⟩ = some (.slice a1 x.length c1)) (h1 : w.cell? ⟨b, 1, none⟩ = some (.slice a2 y.length c2))
    (hx : Fx.StrsAt w a1 x) (hy : Fx.StrsAt w a2 y) (hlx : x.length ≤ 1000) (hly : y.length ≤ 1000) :
    Calls Tryz.prog 161 #[.slice (some ⟨b, 0, none⟩) 2 2] w fun e w' => ∃ v, e = .returned v ∧ w'.ownsRow w.heap.size 9 1 v (x.length + y.length) (strV (x ++ y)) ∧ Below w.heap.size w w' := by
  have HX := hid hx
  have HY := hid hy
  have H0 := hid h0
  have H1 := hid h1
  clear hx hy
  have hw1 : IntKind.i64.wrap (x.length : Int) = x.length := by simp only [IntKind.wrap, IntKind.bits, IntKind.signed]; simp; omega
  have hw2 : IntKind.i64.wrap ((x.length : Int) + (y.length : Int)) = ((x.length + y.length : Nat) : Int) := by simp only [IntKind.wrap, IntKind.bits, IntKind.signed]; simp; omega
  have hs1 : (0 : Int) ≤ x.length := by omega
  have hs2 : (0 : Int) ≤ ((x.length + y.length : Nat) : Int) := by omega
  have HG := hid (grow_any (x.length + y.length) w (by omega))
  go_enter Tryz.func161, Tryz.ntmps161
  go_wp2_with fail
  go_loopw [3, 5, 11] (fun s _ i wr => ∃ j : Nat, j ≤ 2 ∧ i = .int .i64 j ∧ s = .int .i64 (if j = 0 then 0 else if j = 1 then (x.length : Int) else ((x.length + y.length : Nat) : Int)) ∧ w = wr) (fun _ _ i _ => 2 - (intOf i).toNat)
  case atStart => exact ⟨0, by omega, rfl, rfl, rfl⟩
  case round =>
    obtain ⟨j, hj, rfl, rfl, rfl⟩ := hrel
    obtain rfl | rfl | rfl : j = 0 ∨ j = 1 ∨ j = 2 := by omega
    · go_wp2_with fail
      go_roundw
      case rel => exact ⟨1, by omega, rfl, rfl, trivial⟩
      case measure => simp [intOf]
    · go_wp2_with fail
      go_roundw
      case rel => exact ⟨2, by omega, rfl, rfl, trivial⟩
      case measure => simp [intOf]
    · go_wp2_with fail
      refine HG.out.mono ?_
      rintro e w1 ⟨v1, rfl, ho1, hb1⟩
      have HO1 := hid ho1
      have HB1 := hid hb1
      have hz1 := hb1.size
      clear ho1 hb1 HG h0 h1
      go_wp2_with fail
      go_loopw [6, 8, 27] (fun v _ i wr => ∃ j : Nat, j ≤ 2 ∧ i = .int .i64 j ∧ wr.ownsRow w.heap.size 9 1 v (if j = 0 then 0 else if j = 1 then x.length else x.length + y.length) (if j = 0 then [] else if j = 1 then strV x else strV (x ++ y)) ∧ Below w.heap.size w wr) (fun _ _ i _ => 2 - (intOf i).toNat)
      case atStart => exact ⟨0, by omega, rfl, HO1.out, HB1.out⟩
      case round =>
        clear HO1 HB1 hz1
        obtain ⟨j, hj, rfl, ho, hbr⟩ := hrel
        have HB := hid hbr
        have hzr := hbr.size
        have hb' : b < wr.heap.size := Nat.lt_of_lt_of_le hb hzr
        have k0 := (hbr.cell (p := ⟨b, 0, none⟩) hb).trans H0.out
        have k1 := (hbr.cell (p := ⟨b, 1, none⟩) hb).trans H1.out
        clear hbr
        obtain rfl | rfl | rfl : j = 0 ∨ j = 1 ∨ j = 2 := by omega
        · have ho' : wr.ownsRow w.heap.size 9 1 u6 0 [] := ho
          obtain ⟨v', w', hr, h2, h3⟩ := run_append_strs w.heap.size 22 u6 0 [] ho' x a1 c1 (HX.out.later HB.out) (by omega) hzr
          have HO2 : Hid (w'.ownsRow w.heap.size 9 1 v' x.length (strV x)) := hid (by simpa using h2)
          have HB2 := hid (HB.out.grown h3 hzr (fun k hk => (ho'.lt k hk).1))
          clear ho ho' h2 h3
          go_wp2_with (at_builtin; refine Lib.wpList_append_run _ rfl (.tmp 31) (.tmp 32) 22 22 rfl _ _ rfl rfl _ _ hr ?_)
          go_roundw
          case rel => exact ⟨1, by omega, rfl, HO2.out, HB2.out⟩
          case measure => simp [intOf]
        · have ho' : wr.ownsRow w.heap.size 9 1 u6 x.length (strV x) := ho
          obtain ⟨v', w', hr, h2, h3⟩ := run_append_strs w.heap.size 22 u6 x.length (strV x) ho' y a2 c2 (HY.out.later HB.out) (by omega) hzr
          have HO2 : Hid (w'.ownsRow w.heap.size 9 1 v' (x.length + y.length) (strV (x ++ y))) := by rw [strV_append]; exact h2
          have HB2 := hid (HB.out.grown h3 hzr (fun k hk => (ho'.lt k hk).1))
          clear ho ho' h2 h3
          go_wp2_with (at_builtin; refine Lib.wpList_append_run _ rfl (.tmp 31) (.tmp 32) 22 22 rfl _ _ rfl rfl _ _ hr ?_)
          go_roundw
          case rel => exact ⟨2, by omega, rfl, HO2.out, HB2.out⟩
          case measure => simp [intOf]
        · have HO2 : Hid (wr.ownsRow w.heap.size 9 1 u6 (x.length + y.length) (strV (x ++ y))) := ho
          clear ho
          go_wp2_with fail
          go_ret
          exact ⟨_, rfl, HO2.out, HB.out⟩
theorem strV_own {w : World} {B : Nat} {v : Value} {l : List ByteArray} (h : w.ownsRow B 9 1 v l.length (strV l)) : ∃ a cap, v = .slice a l.length cap ∧ Fx.StrsAt w a l := by
  rcases h.2 with ⟨hv, h0⟩ | ⟨g, cap, cur, hv, hB, hg, _⟩
  · have hl : l = [] := List.eq_nil_of_length_eq_zero h0
    exact ⟨none, 0, by rw [hv, hl]; rfl, Or.inl hl⟩
  · refine ⟨_, cap, hv, Or.inr ⟨g, 0, rfl, lt_of_heap hg, fun i hi => ?_⟩⟩
    have := h.cells (g := g) (by rw [hv]; rfl) i (.string l[i]) (by simp [strV, hi])
    rw [show (⟨g, 0, none⟩ : Addr).add i = ⟨g, i, none⟩ from by unfold Addr.add; split <;> simp_all] at this
    rw [Nat.zero_add]
    exact this
/- The map of a procedure's own names. -/
theorem keyedStr : Keyed Tryz.prog 9 := string_keyed Tryz.underlying9
theorem zeroInt (w : World) : (zeroValue 3).run Tryz.prog w = .ok (.int .i64 0) w := by kernel_rfl
def updL (L : Lc) (s : ByteArray) (i : Int) : Lc := fun a => if a = s then some i else L a
def LFor (D : DataW Unit) (L : Lc) : Prop := ∀ a : ByteArray, has D (.string a.data.toList) = (L a).isSome ∧ D.atKey (.string a.data.toList) (.lit (.int .i64 0)) = .lit (.int .i64 ((L a).getD 0))
theorem bytes_inj {a b : ByteArray} (h : a.data.toList = b.data.toList) : a = b := by
  cases a; cases b; simp at h; rw [h]
theorem LFor.put {D : DataW Unit} {L : Lc} (h : LFor D L) (hD : IsMap D) (s : ByteArray) (i : Int) : LFor (D.put (.string s.data.toList) (.lit (.int .i64 i))) (updL L s i) := by
  intro a
  by_cases e : a = s
  · subst e
    simp only [updL, if_true]
    exact ⟨has_put_same (k := .string a.data.toList) hD trivial _, atKey_put_same (k := .string a.data.toList) hD trivial _ _⟩
  · have hne : Lit.string a.data.toList ≠ .string s.data.toList := fun h => e (bytes_inj (by injection h))
    simp only [updL, if_neg e]
    rw [has_put_other hne, atKey_put_other hne]
    exact h a
def LmAt (w : World) (b n : Nat) (L : Lc) : Prop := ∃ D : DataW Unit, w.ownsMap Tryz.prog 9 (plainElem Tryz.prog 3) b n D ∧ LFor D L
theorem LmAt.lt {w : World} {b n : Nat} {L : Lc} (h : LmAt w b n L) : b < w.heap.size := by obtain ⟨D, h1, _⟩ := h; exact h1.lt
theorem LmAt.later {w w' : World} {b n : Nat} {L : Lc} (h : LmAt w b n L) (hb : Below w.heap.size w w') : LmAt w' b n L := by
  have hlt := h.lt
  obtain ⟨D, h1, h2⟩ := h
  obtain ⟨es, clock, hb', r⟩ := h1
  exact ⟨D, ⟨es, clock, (hb.block b hlt).trans hb', r⟩, h2⟩
theorem LmAt.made (w : World) : LmAt (w.alloc (.map #[] 0)) w.heap.size 0 (fun _ => none) := ⟨.map [], World.ownsMap_made w _ _ _, fun _ => ⟨rfl, rfl⟩⟩
set_option maxRecDepth 100000 in
theorem LmAt.names {w : World} {b n : Nat} {L : Lc} (h : LmAt w b n L) : LcAt w (.map (some b)) L := by
  intro w' hb s hs
  obtain ⟨D, k1, k2⟩ := h.later hb
  obtain ⟨v, ps, hrun, hv⟩ := k1.look_ok keyedStr Tryz.underlying185 (zeroInt w') (zd := .lit (.int .i64 0)) (zp := []) (plainElem_int Tryz.underlying3 (by decide)) (keyOf_string_mk Tryz.underlying9 hs)
  obtain ⟨c, rfl, hc, _⟩ := plainElem_int_inv Tryz.underlying3 hv
  simp only [Prod.mk.injEq] at hc
  have hc := hc.1
  rw [(k2 s).2] at hc
  injection hc with hc
  injection hc with _ hc
  rw [hrun, ← hc, (k2 s).1]
theorem none_names (w : World) : LcAt w (.map none) (fun _ => none) := by
  intro w' hb s hs
  rw [look_nil true keyedStr Tryz.underlying185 (zeroInt w') (keyOf_string_mk Tryz.underlying9 hs)]
  rfl
theorem LmAt.put {w : World} {b n : Nat} {L : Lc} (h : LmAt w b n L) (hn : n < maxLen) (s : ByteArray) (hs : s.size ≤ maxLen) (i : Int) (hi : (Lit.int .i64 i).wf = true) :
    ∃ w', (Instr.mapUpdate 185 (.map (some b)) (.string s) (.int .i64 i)).run Tryz.prog w = .ok () w' ∧ LmAt w' b (n + 1) (updL L s i) ∧ w.grownBy w' (some b) := by
  obtain ⟨D, k1, k2⟩ := h
  obtain ⟨w', r1, r2, r3⟩ := k1.update keyedStr Tryz.underlying185 hn (keyOf_string_mk Tryz.underlying9 hs) (plainElem_int (a := i) Tryz.underlying3 hi)
  exact ⟨w', r1, ⟨_, r2, k2.put k1.isMap s i⟩, r3⟩
def locL (l : List ByteArray) : Lc := l.zipIdx.foldl (fun f p => updL f p.1 (p.2 : Int)) (fun _ => none)
theorem locL_snoc (l : List ByteArray) (s : ByteArray) : locL (l ++ [s]) = updL (locL l) s l.length := by
  unfold locL; rw [List.zipIdx_append, List.foldl_append]; simp
end Go.Proofs.YtndkhgakfodldaaGreatDoor

namespace Go.Proofs.YtndkhgakfodldaaGreatDoor
open Go.RowKit Go.Maps Go.WideMaps
set_option linter.unusedSimpArgs false
set_option linter.unusedVariables false
set_option maxRecDepth 100000

def namesU (l : List Un) : List ByteArray := l.map Un.name
theorem namesU_take (l : List Un) (j : Nat) (h : j < l.length) : namesU (l.take (j + 1)) = namesU (l.take j) ++ [l[j].name] := by
  unfold namesU; rw [List.take_succ_eq_append_getElem h, List.map_append]; rfl
/- How often each name was there. -/
def cntL (l : List ByteArray) : Lc := l.foldl (fun f s => updL f s ((f s).getD 0 + 1)) (fun _ => none)
theorem cntL_snoc (l : List ByteArray) (s : ByteArray) : cntL (l ++ [s]) = updL (cntL l) s ((cntL l s).getD 0 + 1) := by unfold cntL; rw [List.foldl_append]; rfl
theorem cntL_bd (s : ByteArray) : ∀ l : List ByteArray, 0 ≤ (cntL l s).getD 0 ∧ (cntL l s).getD 0 ≤ l.length := by
  apply Fx.list_snoc_ind
  · exact ⟨Int.le_refl _, Int.le_refl _⟩
  · intro l a ih
    rw [cntL_snoc, List.length_append]
    unfold updL
    by_cases e : s = a
    · subst e
      rw [if_pos rfl]
      simp only [Option.getD_some, List.length_singleton]
      omega
    · rw [if_neg e, List.length_singleton]
      omega
theorem cntL_zero (s : ByteArray) : ∀ l : List ByteArray, ((cntL l s).getD 0 = 0) ↔ s ∉ l := by
  apply Fx.list_snoc_ind
  · exact ⟨fun _ h => (by cases h), fun _ => rfl⟩
  · intro l a ih
    have hb := cntL_bd s l
    rw [cntL_snoc, List.mem_append, List.mem_singleton]
    unfold updL
    by_cases e : s = a
    · subst e
      rw [if_pos rfl]
      simp only [Option.getD_some]
      exact ⟨fun h => by omega, fun h => absurd (Or.inr (by trivial)) h⟩
    · rw [if_neg e, ih]
      exact ⟨fun h k => k.elim h e, fun h k => h (Or.inl k)⟩
theorem LmAt.look {w : World} {b n : Nat} {L : Lc} (h : LmAt w b n L) (s : ByteArray) (hs : s.size ≤ maxLen) :
    (Instr.lookup 185 (.map (some b)) (.string s) false).run Tryz.prog w = .ok (.int .i64 ((L s).getD 0)) w := by
  obtain ⟨D, k1, k2⟩ := h
  obtain ⟨c, hrun, hat, _⟩ := k1.lookup_int keyedStr Tryz.underlying185 Tryz.underlying3 (zeroInt w) (keyOf_string_mk Tryz.underlying9 hs)
  rw [(k2 s).2] at hat
  injection hat with hat
  injection hat with _ hat
  rw [hrun, hat]
def memB (l : List ByteArray) (s : ByteArray) : Bool := l.any fun x => decide (x = s)
theorem memB_iff {l : List ByteArray} {s : ByteArray} : memB l s = true ↔ s ∈ l := by
  unfold memB
  rw [List.any_eq_true]
  exact ⟨fun ⟨x, hx, h⟩ => (of_decide_eq_true h) ▸ hx, fun h => ⟨s, h, decide_eq_true rfl⟩⟩
theorem memB_not {l : List ByteArray} {s : ByteArray} (h : s ∉ l) : memB l s = false := by
  cases hm : memB l s with
  | false => rfl
  | true => exact absurd (memB_iff.1 hm) h
/- Each use is a name ahead. -/
def aheadTo (l : List Un) : Nat → Bool
  | 0 => true
  | j + 1 => aheadTo l j && (match l[j]? with | some u => u.uses.all (memB (namesU (l.take j))) | none => true)
def aheadB (l : List Un) : Bool := aheadTo l l.length
theorem aheadTo_succ {l : List Un} {j : Nat} (h : j < l.length) : aheadTo l (j + 1) = (aheadTo l j && l[j].uses.all (memB (namesU (l.take j)))) := by
  rw [aheadTo, List.getElem?_eq_getElem h]
theorem aheadTo_false {l : List Un} {j : Nat} (h : aheadTo l j = false) : ∀ k, j ≤ k → aheadTo l k = false
  | 0, hk => by obtain rfl : j = 0 := by omega
                exact h
  | k + 1, hk => by
    rcases Nat.lt_or_ge k j with h1 | h1
    · obtain rfl : j = k + 1 := by omega
      exact h
    · rw [aheadTo, aheadTo_false h k h1]; rfl
theorem heap_map_ne {w w' : World} {b g : Nat} {x : Obj} (hg : w.grownBy w' (some g)) (hne : b ≠ g) (h : w.heap[b]? = some x) : w'.heap[b]? = some x :=
  (hg.block b (lt_of_heap h) (by simpa using hne)).trans h
set_option maxHeartbeats 3200000 in
theorem usesAreAhead_any (l : List Un) (a : Option Addr) (cap : Nat) (w : World) (hD : DAt w Tt a l.length (unsD l)) (h4 : l.length ≤ 4) :
    Calls Tryz.prog 69 #[.slice a l.length cap] w fun e w' => e = .returned (.bool (aheadB l)) ∧ Below w.heap.size w w' := by
  have hmm := @run_makeMap Tryz.prog
  have HD := hid hD
  clear hD
  go_enter Tryz.func69, Tryz.ntmps69
  go_wp2_with fail
  go_loopw [11] (fun i wr => ∃ j : Nat, j ≤ l.length ∧ i = .int .i64 j ∧ aheadTo l j = true ∧ LmAt wr w.heap.size j (cntL (namesU (l.take j))) ∧ Below w.heap.size w wr) (fun i _ => l.length - (intOf i).toNat)
  case atStart => exact ⟨0, Nat.zero_le _, rfl, rfl, LmAt.made _, al1 _ _⟩
  case round =>
    obtain ⟨j, hj, rfl, hall, hm, hb⟩ := hrel
    have HM := hid hm
    have HB := hid hb
    have HL := hid hall
    have hzm := hm.lt
    clear hall hm hb
    by_cases hlt : j < l.length
    · obtain ⟨b, off, a1, k1, a2, k2, a3, k3, rfl, hx⟩ := (HD.out.later HB.out).un j hlt
      have HS := hid (aheadTo_succ hlt)
      have HN := hid (namesU_take l j hlt)
      obtain ⟨hbl, c0, c1, c2, c3, c4, hus, _, _, hnm, _⟩ := hx
      have hub := hus.bound
      have HUs := hid (hus.later (al1 wr (.cells #[.string l[j].name, .slice a1 l[j].uses.length k1, .int .i64 l[j].data, .slice a2 l[j].parts.length k2, .slice a3 l[j].main.length k3] 42)))
      have HLen : Hid ((namesU (l.take j)).length ≤ 4) := by show _ ≤ 4; unfold namesU; rw [List.length_map, List.length_take]; omega
      generalize namesU (l.take j) = ns at *
      generalize l[j] = x at *
      clear hus
      have HM1 := hid (HM.out.later (al1 wr (.cells #[.string x.name, .slice a1 x.uses.length k1, .int .i64 x.data, .slice a2 x.parts.length k2, .slice a3 x.main.length k3] 42)))
      have HX1 : Hid ((wr.alloc (.cells #[.string x.name, .slice a1 x.uses.length k1, .int .i64 x.data, .slice a2 x.parts.length k2, .slice a3 x.main.length k3] 42)).heap[wr.heap.size]? = some (.cells #[.string x.name, .slice a1 x.uses.length k1, .int .i64 x.data, .slice a2 x.parts.length k2, .slice a3 x.main.length k3] 42 (0, 0))) := heap_newP _ _
      have HB1 := hid (thenB HB.out (al1 wr (.cells #[.string x.name, .slice a1 x.uses.length k1, .int .i64 x.data, .slice a2 x.parts.length k2, .slice a3 x.main.length k3] 42)))
      have HZ : Hid ((wr.alloc (.cells #[.string x.name, .slice a1 x.uses.length k1, .int .i64 x.data, .slice a2 x.parts.length k2, .slice a3 x.main.length k3] 42)).heap.size = wr.heap.size + 1) := by show _ = _; simp
      go_wp2_with fail
      generalize hW1 : wr.alloc (.cells #[.string x.name, .slice a1 x.uses.length k1, .int .i64 x.data, .slice a2 x.parts.length k2, .slice a3 x.main.length k3] 42) = W1 at *
      clear hW1
      have hzz := HZ.out
      clear c0 c1 c2 c3 c4 hbl
      go_loopw [18] (fun i W => ∃ k : Nat, k ≤ x.uses.length ∧ i = .int .i64 k ∧ (x.uses.take k).all (memB ns) = true ∧ W = W1) (fun i _ => x.uses.length - (intOf i).toNat)
      case atStart => exact ⟨0, Nat.zero_le _, rfl, rfl, rfl⟩
      case round =>
        obtain ⟨k, hk, rfl, hall, rfl⟩ := hrel
        have HAll := hid hall
        clear hall
        by_cases hlt2 : k < x.uses.length
        · obtain ⟨b2, off2, rfl, hb2, d0, hsz⟩ := HUs.out.str k hlt2
          have hlk := HM1.out.look x.uses[k] hsz
          have HZr := hid (cntL_zero x.uses[k] ns)
          have HF := hid (all_not x.uses (memB ns) k hlt2)
          have HT := hid (all_snoc x.uses (memB ns) k hlt2)
          generalize x.uses[k] = s at *
          generalize (cntL ns s).getD 0 = cc at *
          by_cases t1 : cc = 0
          · have HR : Hid (aheadB l = false) := by
              show _ = _
              refine aheadTo_false (j := j + 1) ?_ l.length (by omega)
              rw [HS.out, HF.out (memB_not (HZr.out.1 t1)), Bool.and_false]
            subst t1
            go_wp2_with fail
            go_ret
            exact ⟨ret_bool (by first | exact HR.out.symm | (rw [HR.out] <;> first | (simp; omega) | (simp [*]; done))), HB1.out⟩
          · have HT' : Hid ((x.uses.take (k + 1)).all (memB ns) = true) := by
              show _ = _
              rw [HT.out, HAll.out, memB_iff.2 (Classical.byContradiction fun h => t1 (HZr.out.2 h))]; rfl
            go_wp2_with fail
            go_roundw
            case rel => exact ⟨k + 1, by omega, by go_num, HT'.out, trivial⟩
            case measure => simp [intOf]; omega
        · have HT : Hid (aheadTo l (j + 1) = true) := by show _ = _; rw [HS.out, HL.out, all_end HAll.out hlt2]; rfl
          have hlk := HM1.out.look x.name hnm
          have HBd := hid (cntL_bd x.name ns)
          have HC := hid (cntL_snoc ns x.name)
          have hwr : IntKind.i64.wrap ((cntL ns x.name).getD 0 + 1) = (cntL ns x.name).getD 0 + 1 := by
            have := HBd.out; have := HLen.out
            simp only [IntKind.wrap, IntKind.bits, IntKind.signed]; simp; omega
          obtain ⟨w2, hup, hm2, hg2⟩ := HM1.out.put (by unfold maxLen; omega) x.name hnm ((cntL ns x.name).getD 0 + 1) (by have := HBd.out; have := HLen.out; simp only [Lit.wf, Bool.and_eq_true, decide_eq_true_eq]; exact ⟨by show (-9223372036854775808 : Int) ≤ _; omega, by show _ ≤ (9223372036854775807 : Int); omega⟩)
          obtain ⟨e0, e1, e2, e3, e4, _⟩ := cellsOf5 HX1.out
          have HM2 := hid hm2
          have HB2 := hid (HB1.out.grown hg2 HB1.out.size (fun q hq => by cases hq; exact Nat.le_refl _))
          clear hm2 hg2
          generalize (cntL ns x.name).getD 0 = cc at *
          have hc1 : 0 ≤ cc := HBd.out.1
          have hc2 : cc ≤ 4 := by have := HBd.out.2; have := HLen.out; omega
          go_wp2_with fail
          go_roundw
          case rel => exact ⟨j + 1, by omega, by go_num, HT.out, by rw [HN.out, HC.out]; exact HM2.out, HB2.out⟩
          case measure => simp [intOf]; omega
    · obtain rfl : j = l.length := by omega
      go_wp2_with fail
      go_ret
      exact ⟨ret_bool (by first | exact HL.out.symm | (rw [HL.out] <;> first | (simp; omega) | (simp [*]; done))), HB.out⟩
set_option maxHeartbeats 1600000 in
theorem hasNameTwice_any (l : List Un) (a : Option Addr) (cap : Nat) (w : World) (hD : DAt w Tt a l.length (unsD l)) (h4 : l.length ≤ 4) :
    Calls Tryz.prog 70 #[.slice a l.length cap] w fun e w' => e = .returned (.bool (Fx.dupB (Fx.lists (namesU l)))) ∧ Below w.heap.size w w' := by
  have hmm := @run_makeMap Tryz.prog
  have HD := hid hD
  clear hD
  go_enter Tryz.func70, Tryz.ntmps70
  go_wp2_with fail
  go_loopw [9] (fun i wr => ∃ (k : Nat) (D : DataW Unit), k ≤ l.length ∧ i = .int .i64 k ∧ wr.ownsMap Tryz.prog 9 (plainElem Tryz.prog 3) w.heap.size k D ∧ Fx.MapInv D (Fx.lists (namesU (l.take k))) ∧ Below w.heap.size w wr) (fun i _ => l.length - (intOf i).toNat)
  case atStart => exact ⟨0, .map [], Nat.zero_le _, rfl, World.ownsMap_made _ _ _ _, Fx.mapInv_nil, al1 _ _⟩
  case round =>
    obtain ⟨k, D, hk, rfl, hown, hinv, hb⟩ := hrel
    have HI := hid hinv
    have HO := hid hown
    have HB := hid hb
    have hzm := hown.lt
    clear hown hb hinv
    by_cases hlt : k < l.length
    · obtain ⟨b, off, a1, k1, a2, k2, a3, k3, rfl, hx⟩ := (HD.out.later HB.out).un k hlt
      have HN := hid (namesU_take l k hlt)
      obtain ⟨hbl, c0, c1, c2, c3, c4, _, _, _, hnm, _⟩ := hx
      have HK : Hid (Fx.lists (namesU (l.take k)) ++ [l[k].name.data.toList] = Fx.lists (namesU (l.take (k + 1)))) := by show _ = _; rw [HN.out, Fx.lists_snoc]
      have HKey := hid (keyOf_string_mk (P := Tryz.prog) Tryz.underlying9 hnm)
      generalize l[k] = x at *
      have HO1 := hid (HO.out.alloc (.cells #[.string x.name, .slice a1 x.uses.length k1, .int .i64 x.data, .slice a2 x.parts.length k2, .slice a3 x.main.length k3] 42))
      have HB1 := hid (thenB HB.out (al1 wr (.cells #[.string x.name, .slice a1 x.uses.length k1, .int .i64 x.data, .slice a2 x.parts.length k2, .slice a3 x.main.length k3] 42)))
      clear hnm
      go_wp2_with (first
        | (at_lookup; refine wpList_lookup_own_int _ rfl _ _ 185 rfl 9 3 .i64 Fx.law Tryz.underlying185 Tryz.underlying3 (Fx.zero3 _) w.heap.size k D rfl HO1.out _ _ rfl HKey.out ?_; intro c hat hwc; clear hat hwc)
        | (at_mapUpdate; refine wpList_mapUpdate_own _ rfl _ _ _ 185 rfl 9 3 Fx.law Tryz.underlying185 _ w.heap.size k D rfl HO1.out (by unfold maxLen; omega) _ _ _ rfl rfl HKey.out _ [] (plainElem_int Tryz.underlying3 (wrap64_wf _)) ?_; intro w1 hown1 hgrow1; have HO2 := hid hown1; have HG := hid hgrow1; clear hown1 hgrow1))
      go_roundw
      case rel => exact ⟨k + 1, _, by omega, by go_num, HO2.out, by rw [← HK.out]; exact HI.out.put (HO.out.tidy Fx.law) HO.out.isMap _ _, HB1.out.grown HG.out HB1.out.size (fun j hj => by cases hj; exact Nat.le_refl _)⟩
      case measure => simp [intOf]; omega
    · have HE : Hid (Maps.size D = (Fx.uniqs (Fx.lists (namesU l))).length) := by
        have := HI.out.size
        rw [List.take_of_length_le (by omega)] at this
        exact this
      have HLn : Hid ((Fx.lists (namesU l)).length = l.length) := by show _ = _; simp [Fx.lists, namesU]
      go_wp2_with (at_len; refine wpList_len_own _ rfl _ _ rfl 9 3 Tryz.underlying185 _ w.heap.size k D rfl HO.out ?_)
      go_ret
      exact ⟨ret_bool (by unfold Fx.dupB; rw [← HE.out, HLn.out]), HB.out⟩
def sumD (l : List Un) : Int := (l.map Un.data).sum
theorem sumD_take (l : List Un) (j : Nat) (h : j < l.length) : sumD (l.take (j + 1)) = sumD (l.take j) + l[j].data := by
  unfold sumD; rw [List.take_succ_eq_append_getElem h, List.map_append, List.sum_append]; simp
theorem sumD_bd (l : List Un) (hb : ∀ u ∈ l, 0 ≤ u.data ∧ u.data ≤ 512) : ∀ j : Nat, 0 ≤ sumD (l.take j) ∧ sumD (l.take j) ≤ 512 * j
  | 0 => by simp [sumD]
  | j + 1 => by
    have ih := sumD_bd l hb j
    rcases Nat.lt_or_ge j l.length with h | h
    · have := hb l[j] (List.getElem_mem h)
      rw [sumD_take l j h]
      omega
    · rw [List.take_of_length_le (by omega)]
      rw [List.take_of_length_le (by omega)] at ih
      omega
set_option maxHeartbeats 1600000 in
theorem dataHolds_any (l : List Un) (a : Option Addr) (cap : Nat) (w : World) (hD : DAt w Tt a l.length (unsD l)) (h4 : l.length ≤ 4) (hb : ∀ u ∈ l, 0 ≤ u.data ∧ u.data ≤ 512) :
    Calls Tryz.prog 72 #[.slice a l.length cap] w fun e w' => e = .returned (.bool (decide (sumD l ≤ 512))) ∧ Below w.heap.size w w' := by
  have HBd := hid (sumD_bd l hb)
  have HE := hid hb
  have HD := hid hD
  clear hD hb
  go_enter Tryz.func72, Tryz.ntmps72
  go_wp2_with fail
  go_loopw [3, 8] (fun v i wr => ∃ j : Nat, j ≤ l.length ∧ i = .int .i64 j ∧ v = .int .i64 (sumD (l.take j)) ∧ Below w.heap.size w wr) (fun _ i _ => l.length - (intOf i).toNat)
  case atStart => exact ⟨0, Nat.zero_le _, rfl, rfl, Below.refl _ _⟩
  case round =>
    obtain ⟨j, hj, rfl, rfl, hb⟩ := hrel
    have HB := hid hb
    obtain ⟨g1, g2⟩ := HBd.out j
    clear hb
    by_cases hlt : j < l.length
    · obtain ⟨b, off, a1, k1, a2, k2, a3, k3, rfl, hx⟩ := (HD.out.later HB.out).un j hlt
      have HS := hid (sumD_take l j hlt)
      obtain ⟨g3, g4⟩ := HE.out l[j] (List.getElem_mem hlt)
      obtain ⟨hbl, c0, c1, c2, c3, c4, _, _, _, _, _⟩ := hx
      generalize l[j] = x at *
      generalize sumD (l.take j) = sm at *
      have hws : IntKind.i64.wrap (sm + x.data) = sm + x.data := by simp only [IntKind.wrap, IntKind.bits, IntKind.signed]; simp; omega
      go_wp2_with fail
      go_roundw
      case rel => exact ⟨j + 1, by omega, by go_num, by rw [HS.out], thenB HB.out (al1 _ _)⟩
      case measure => simp [intOf]; omega
    · have HR : Hid (sumD (l.take j) = sumD l) := by show _ = _; rw [List.take_of_length_le (by omega)]
      rw [HR.out] at g1 g2
      rw [HR.out]
      by_cases t : sumD l ≤ 512
      · have HT : Hid (decide (sumD l ≤ 512) = true) := decide_eq_true t
        go_wp2_with fail
        go_ret
        exact ⟨ret_bool (by first | exact HT.out.symm | (rw [HT.out] <;> first | (simp; omega) | (simp [*]; done))), HB.out⟩
      · have HT : Hid (decide (sumD l ≤ 512) = false) := decide_eq_false t
        have t' : 512 < sumD l := by omega
        clear t
        go_wp2_with fail
        go_ret
        exact ⟨ret_bool (by first | exact HT.out.symm | (rw [HT.out] <;> first | (simp; omega) | (simp [*]; done))), HB.out⟩
end Go.Proofs.YtndkhgakfodldaaGreatDoor
