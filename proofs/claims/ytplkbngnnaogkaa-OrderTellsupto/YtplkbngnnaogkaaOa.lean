/-
  The maps of package order: names with their numbers, and sets of names.
-/
import Derived.Test.YtplkbngnnaogkaaCe
import Derived.Test.YtplkbngnnaogkaaOg
import Derived.Test.YtplkbngnnaogkaaIter
import Derived.Maps.OwnSet
namespace Go.Proofs.Ytplkbngnnaogkaa
open Go.RowKit Go.Maps Go.Sort Go.WideMaps

abbrev Nm := Og.Nm
theorem keyed9 : Keyed Try.prog 9 := string_keyed Try.underlying9
theorem zero3 (w : World) : (zeroValue 3).run Try.prog w = .ok (.int .i64 0) w := by kernel_rfl
theorem zero57 (w : World) : (zeroValue 57).run Try.prog w = .ok (.agg #[]) w := by kernel_rfl
/- Names with their numbers. -/
def NumAt (w : World) (b : Nat) (ns : List Nm) : Prop := ∃ (n : Nat) (D : DataW Unit), n ≤ ns.length ∧ w.ownsMap Try.prog 9 (plainElem Try.prog 3) b n D ∧ (∀ a, has D (.string a) = ns.contains a) ∧
  ∀ a ∈ ns, ∃ i : Nat, D.atKey (.string a) (.lit (.int .i64 0)) = .lit (.int .i64 i) ∧ ns[i]? = some a
theorem NumAt.later {w w' : World} {b : Nat} {ns : List Nm} (h : NumAt w b ns) (hb : Below w.heap.size w w') : NumAt w' b ns := by
  obtain ⟨n, D, h0, h1, h2⟩ := h
  have hlt := h1.lt
  obtain ⟨es, clock, hb', r⟩ := h1
  exact ⟨n, D, h0, ⟨es, clock, (hb.block b hlt).trans hb', r⟩, h2⟩
theorem NumAt.made (w : World) : NumAt (w.alloc (.map #[] 0)) w.heap.size [] :=
  ⟨0, .map [], Nat.le_refl _, World.ownsMap_made w _ _ _, fun _ => rfl, fun _ h => by cases h⟩
theorem NumAt.lt {w : World} {b : Nat} {ns : List Nm} (h : NumAt w b ns) : b < w.heap.size := by obtain ⟨n, D, h0, h1, h2⟩ := h; exact h1.lt
theorem NumAt.put {w : World} {b : Nat} {ns : List Nm} (h : NumAt w b ns) (hn : ns.length < maxLen) {s : ByteArray} (hs : s.size ≤ maxLen) :
    ∃ w', (Instr.mapUpdate 45 (.map (some b)) (.string s) (.int .i64 ns.length)).run Try.prog w = .ok () w' ∧ NumAt w' b (ns ++ [s.data.toList]) ∧ w.grownBy w' (some b) := by
  obtain ⟨n, D, h0, h1, h2, h3⟩ := h
  obtain ⟨w', r1, r2, r3⟩ := h1.update keyed9 Try.underlying45 (by omega) (keyOf_string_mk Try.underlying9 hs) (plainElem_int (a := (ns.length : Int)) Try.underlying3 (WalkArith.wf_i64 (by unfold maxLen at hn; omega)))
  refine ⟨w', r1, ⟨n + 1, _, by simp; omega, r2, fun a => ?_, fun a ha => ?_⟩, r3⟩
  · by_cases e : a = s.data.toList
    · subst e
      rw [has_put_same (k := .string s.data.toList) h1.isMap trivial]
      simp
    · have hne : Lit.string a ≠ .string s.data.toList := fun h => e (by injection h)
      rw [has_put_other hne, h2]
      simp [e]
  · by_cases e : a = s.data.toList
    · subst e
      exact ⟨ns.length, atKey_put_same (k := .string s.data.toList) h1.isMap trivial _ _, by simp⟩
    · have hne : Lit.string a ≠ .string s.data.toList := fun h => e (by injection h)
      have ha' : a ∈ ns := by simpa [e] using ha
      obtain ⟨i, e1, e2⟩ := h3 a ha'
      refine ⟨i, by rw [atKey_put_other hne]; exact e1, ?_⟩
      have hi : i < ns.length := by
        rcases Nat.lt_or_ge i ns.length with h | h
        · exact h
        · rw [List.getElem?_eq_none h] at e2; cases e2
      rw [List.getElem?_append_left hi]; exact e2
theorem idx_of {ns : List Nm} (hn : ns.Nodup) {i : Nat} {a : Nm} (h : ns[i]? = some a) : ns.idxOf a = i := by
  obtain ⟨hi, e⟩ := List.getElem?_eq_some_iff.1 h
  have hm : a ∈ ns := by rw [← e]; exact List.getElem_mem hi
  have hlt := List.idxOf_lt_length_iff.2 hm
  have := List.getElem_idxOf hlt
  exact (List.getElem_inj hn).1 (this.trans e.symm)
set_option maxRecDepth 100000 in
theorem NumAt.look {w : World} {b : Nat} {ns : List Nm} (h : NumAt w b ns) (hn : ns.Nodup) {s : ByteArray} (hs : s.size ≤ maxLen) (hm : s.data.toList ∈ ns) :
    (Instr.lookup 45 (.map (some b)) (.string s) false).run Try.prog w = .ok (.int .i64 (ns.idxOf s.data.toList : Nat)) w := by
  obtain ⟨n, D, h0, h1, h2, h3⟩ := h
  obtain ⟨c, hrun, hat, _⟩ := h1.lookup_int keyed9 Try.underlying45 Try.underlying3 (zero3 w) (keyOf_string_mk Try.underlying9 hs)
  obtain ⟨i, e1, e2⟩ := h3 _ hm
  rw [e1] at hat
  injection hat with hat
  injection hat with _ hat
  rw [hrun, ← hat, idx_of hn e2]
set_option maxRecDepth 100000 in
theorem NumAt.look_ok {w : World} {b : Nat} {ns : List Nm} (h : NumAt w b ns) {s : ByteArray} (hs : s.size ≤ maxLen) :
    ∃ c : Int, (Instr.lookup 45 (.map (some b)) (.string s) true).run Try.prog w = .ok (.tuple #[.int .i64 c, .bool (ns.contains s.data.toList)]) w ∧ (ns.Nodup → s.data.toList ∈ ns → c = (ns.idxOf s.data.toList : Nat)) := by
  obtain ⟨n, D, h0, h1, h2, h3⟩ := h
  obtain ⟨v, ps, hrun, hv⟩ := h1.look_ok keyed9 Try.underlying45 (zero3 w) (zd := .lit (.int .i64 0)) (zp := []) (plainElem_int Try.underlying3 (by decide)) (keyOf_string_mk Try.underlying9 hs)
  obtain ⟨c, rfl, hc, _⟩ := plainElem_int_inv Try.underlying3 hv
  refine ⟨c, by rw [hrun, h2], fun hn hm => ?_⟩
  obtain ⟨i, e1, e2⟩ := h3 _ hm
  simp only [Prod.mk.injEq] at hc
  rw [e1] at hc
  have hc := hc.1
  injection hc with hc
  injection hc with _ hc
  rw [← hc, idx_of hn e2]
theorem len_le : ∀ (ks l : List Nm), ks.Nodup → (∀ a ∈ ks, a ∈ l) → ks.length ≤ l.length
  | [], _, _, _ => Nat.zero_le _
  | x :: ks, l, nd, h => by
    obtain ⟨h1, h2⟩ := List.nodup_cons.1 nd
    have hx := h x (by simp)
    have := len_le ks (l.erase x) h2 (fun a ha => (List.mem_erase_of_ne (fun e : a = x => h1 (by rw [← e]; exact ha))).2 (h a (by simp [ha])))
    rw [List.length_erase_of_mem hx] at this
    have hp : 0 < l.length := List.length_pos_of_mem hx
    simp; omega
theorem once : ∀ (l : List Nm), ∃ ks : List Nm, ks.Nodup ∧ (∀ a, a ∈ ks ↔ a ∈ l) ∧ (¬ l.Nodup → ks.length < l.length)
  | [] => ⟨[], by simp, by simp, by simp⟩
  | x :: l => by
    obtain ⟨ks, h1, h2, h3⟩ := once l
    have hle := len_le ks l h1 (fun a ha => (h2 a).1 ha)
    by_cases hx : x ∈ l
    · refine ⟨ks, h1, fun a => ?_, fun _ => by simp; omega⟩
      rw [h2, List.mem_cons]
      exact ⟨Or.inr, fun h => h.elim (fun e => e ▸ hx) id⟩
    · refine ⟨x :: ks, List.nodup_cons.2 ⟨fun h => hx ((h2 x).1 h), h1⟩, fun a => by simp [h2], fun hn => ?_⟩
      have := h3 (fun h => hn (List.nodup_cons.2 ⟨hx, h⟩))
      simp; omega
/- The keys of a map that has just these. -/
theorem keys_perm {w : World} {H : Type} {R : Value → Option (DataW H × List MemPlace)} {b n : Nat} {D : DataW H} (h : w.ownsMap Try.prog 9 R b n D) {l : List Nm} (hl : l.Nodup) (hm : ∀ a, has D (.string a) = l.contains a) : l.Perm (strKeys D) :=
  Collected.perm (left := fun _ => false) ⟨hl, fun x => by rw [hm x]; simp⟩ h keyed9 Try.underlying9 (fun _ => rfl)
theorem size_keys {H : Type} (D : DataW H) (h : IsMap D) : Maps.size D = (strKeys D).length := by obtain ⟨es, rfl⟩ := h; simp [Maps.size, strKeys]
theorem NumAt.len {w : World} {b : Nat} {ns : List Nm} (h : NumAt w b ns) :
    ∃ m : Nat, (∀ ty, (Builtin.len_ #[45] ty #[.map (some b)]).run Try.prog w = .ok (.int .i64 m) w) ∧ (ns.Nodup → m = ns.length) ∧ (¬ ns.Nodup → m < ns.length) := by
  obtain ⟨n, D, h0, h1, h2, h3⟩ := h
  refine ⟨Maps.size D, fun ty => h1.len Try.underlying45 ty, fun hn => ?_, fun hn => ?_⟩
  · rw [size_keys D h1.isMap, ← (keys_perm h1 hn h2).length_eq]
  · obtain ⟨ks, k1, k2, k3⟩ := once ns
    have hp := keys_perm h1 k1 (fun a => by rw [h2, Bool.eq_iff_iff]; simp [k2])
    rw [size_keys D h1.isMap, ← hp.length_eq]
    exact k3 hn
theorem NumAt.keys {w : World} {b : Nat} {ns : List Nm} (h : NumAt w b ns) (hn : ns.Nodup) : ∃ (n : Nat) (D : DataW Unit), w.ownsMap Try.prog 9 (plainElem Try.prog 3) b n D ∧ ns.Perm (strKeys D) ∧ Maps.size D = ns.length := by
  obtain ⟨n, D, h0, h1, h2, h3⟩ := h
  have hp := keys_perm h1 hn h2
  exact ⟨n, D, h1, hp, by rw [size_keys D h1.isMap, ← hp.length_eq]⟩
/- A set of names. -/
def SetAt (w : World) (b : Nat) (l : List Nm) : Prop := ∃ (n : Nat) (D : DataW Unit), n ≤ l.length ∧ l.Nodup ∧ w.ownsMap Try.prog 9 unitElem b n D ∧ ∀ a, has D (.string a) = l.contains a
theorem SetAt.made (w : World) : SetAt (w.alloc (.map #[] 0)) w.heap.size [] := ⟨0, .map [], Nat.le_refl _, List.nodup_nil, World.ownsMap_made w _ _ _, fun _ => rfl⟩
theorem SetAt.lt {w : World} {b : Nat} {l : List Nm} (h : SetAt w b l) : b < w.heap.size := by obtain ⟨n, D, h0, _, h1, h2⟩ := h; exact h1.lt
theorem SetAt.nodup {w : World} {b : Nat} {l : List Nm} (h : SetAt w b l) : l.Nodup := by obtain ⟨n, D, h0, h, h1, h2⟩ := h; exact h
theorem SetAt.later {w w' : World} {b : Nat} {l : List Nm} (h : SetAt w b l) (hb : Below w.heap.size w w') : SetAt w' b l := by
  obtain ⟨n, D, h0, hn, h1, h2⟩ := h
  have hlt := h1.lt
  obtain ⟨es, clock, hb', r⟩ := h1
  exact ⟨n, D, h0, hn, ⟨es, clock, (hb.block b hlt).trans hb', r⟩, h2⟩
theorem SetAt.look_ok {w : World} {b : Nat} {l : List Nm} (h : SetAt w b l) {s : ByteArray} (hs : s.size ≤ maxLen) :
    (Instr.lookup 54 (.map (some b)) (.string s) true).run Try.prog w = .ok (.tuple #[.agg #[], .bool (l.contains s.data.toList)]) w := by
  obtain ⟨n, D, h0, hn, h1, h2⟩ := h
  obtain ⟨v, ps, hrun, hv⟩ := h1.look_ok keyed9 Try.underlying54 (zero57 w) (zd := .agg []) (zp := []) unitElem_mk (keyOf_string_mk Try.underlying9 hs)
  obtain ⟨rfl, _⟩ := unitElem_inv hv
  rw [hrun, h2]
theorem SetAt.put {w : World} {b : Nat} {l : List Nm} (h : SetAt w b l) (hn : l.length < maxLen) {s : ByteArray} (hs : s.size ≤ maxLen) (hm : s.data.toList ∉ l) :
    ∃ w', (Instr.mapUpdate 54 (.map (some b)) (.string s) (.agg #[])).run Try.prog w = .ok () w' ∧ SetAt w' b (l ++ [s.data.toList]) ∧ w.grownBy w' (some b) := by
  obtain ⟨n, D, h0, hd, h1, h2⟩ := h
  obtain ⟨w', r1, r2, r3⟩ := h1.update keyed9 Try.underlying54 (by omega) (keyOf_string_mk Try.underlying9 hs) (unitElem_mk (H := Unit))
  refine ⟨w', r1, ⟨n + 1, _, by simp; omega, List.nodup_append.2 ⟨hd, by simp, by intro x hx y hy e; simp at hy; subst hy; subst e; exact hm hx⟩, r2, fun a => ?_⟩, r3⟩
  by_cases e : a = s.data.toList
  · subst e
    rw [has_put_same (k := .string s.data.toList) h1.isMap trivial]
    simp
  · have hne : Lit.string a ≠ .string s.data.toList := fun h => e (by injection h)
    rw [has_put_other hne, h2]
    simp [e]
theorem SetAt.keys {w : World} {b : Nat} {l : List Nm} (h : SetAt w b l) : ∃ (n : Nat) (D : DataW Unit), w.ownsMap Try.prog 9 unitElem b n D ∧ l.Perm (strKeys D) ∧ Maps.size D = l.length := by
  obtain ⟨n, D, h0, hd, h1, h2⟩ := h
  have hp := keys_perm h1 hd h2
  exact ⟨n, D, h1, hp, by rw [size_keys D h1.isMap, ← hp.length_eq]⟩
end Go.Proofs.Ytplkbngnnaogkaa
