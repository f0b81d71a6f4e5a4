/-
  The document's NeedsOf without the program; a row of names that is sorted in place.
-/
import Derived.Test.YtplkbngnnaogkaaRk
namespace Go.Proofs.Ytplkbngnnaogkaa
open Go.RowKit Go.Maps Go.Sort

/- What has been marked: only what x needs; all of it; how much of it. -/
def Snd (L : List Mo) (x : Nm) (f : Nat → Bool) : Prop := ∀ t, t < L.length → f t = true → Og.Reach (uL L) x (nmT L t)
def Full (L : List Mo) (x : Nm) (f : Nat → Bool) : Prop := ∀ t, t < L.length → Og.Reach (uL L) x (nmT L t) → f t = true
def cntF (n : Nat) (f : Nat → Bool) : Nat := (List.range n).countP f
theorem cntF_le (n : Nat) (f : Nat → Bool) : cntF n f ≤ n := by
  unfold cntF
  have := List.countP_le_length (p := f) (l := List.range n)
  simpa using this
theorem cntF_sub : ∀ (n : Nat) (f g : Nat → Bool), (∀ t, t < n → f t = true → g t = true) → cntF n f ≤ cntF n g
  | 0, _, _, _ => by simp [cntF]
  | n + 1, f, g, h => by
    have ih := cntF_sub n f g (fun t ht => h t (by omega))
    have hn := h n (by omega)
    unfold cntF at *
    rw [List.range_succ, List.countP_append, List.countP_append]
    simp only [List.countP_cons, List.countP_nil]
    cases hf : f n with
    | false => simp; omega
    | true => simp [hn hf]; omega
theorem cntF_lt : ∀ (n : Nat) (f g : Nat → Bool), (∀ t, t < n → f t = true → g t = true) → (∃ t, t < n ∧ g t = true ∧ f t = false) → cntF n f + 1 ≤ cntF n g
  | 0, _, _, _, h => by obtain ⟨t, ht, _⟩ := h; omega
  | n + 1, f, g, h, ⟨t, ht, h1, h2⟩ => by
    have hn := h n (by omega)
    by_cases e : t = n
    · subst e
      have ih := cntF_sub t f g (fun s hs => h s (by omega))
      unfold cntF at *
      rw [List.range_succ, List.countP_append, List.countP_append]
      simp only [List.countP_cons, List.countP_nil, h1, h2]
      simp; omega
    · have ih := cntF_lt n f g (fun t ht => h t (by omega)) ⟨t, by omega, h1, h2⟩
      unfold cntF at *
      rw [List.range_succ, List.countP_append, List.countP_append]
      simp only [List.countP_cons, List.countP_nil]
      cases hf : f n with
      | false => simp; omega
      | true => simp [hn hf]; omega
theorem uL_T {L : List Mo} (hn : (nmL L).Nodup) (t : Nat) (h : t < L.length) : uL L (nmT L t) = L[t].uses.map (fun u => u.data.toList) := by
  have hi : t < (gL L).length := by simpa [gL] using h
  have := Og.useOf_at (L := gL L) (by rw [names_gL]; exact hn) t hi
  have e : ((gL L)[t]'hi).name = nmT L t := by rw [nmT_at L t h]; simp [gL, gmOf]
  rw [e] at this
  rw [show uL L (nmT L t) = ((gL L)[t]'hi).uses from this]
  simp [gL, gmOf]
/- One turn, up to module j. -/
structure Ps (L : List Mo) (x : Nm) (f0 : Nat → Bool) (j : Nat) (f : Nat → Bool) : Prop where
  sub : ∀ t, t < L.length → f0 t = true → f t = true
  snd : Snd L x f
  out : ∀ t (h : t < L.length), t < j → (f0 t = true ∨ nmT L t = x) → ∀ u ∈ L[t].uses, f ((nmL L).idxOf u.data.toList) = true
theorem Ps.start {L : List Mo} {x : Nm} {f : Nat → Bool} (h : Snd L x f) : Ps L x f 0 f := ⟨fun _ _ h => h, h, fun _ _ h => by omega⟩
def markF (f : Nat → Bool) (j : Nat) : Nat → Bool := fun t => if t = j then true else f t
theorem markF_up {f : Nat → Bool} {j t : Nat} (h : f t = true) : markF f j t = true := by unfold markF; split <;> simp_all
theorem markF_at (f : Nat → Bool) (j : Nat) : markF f j j = true := by simp [markF]
theorem Ps.mark {L : List Mo} {x : Nm} {f0 f : Nat → Bool} {j ix : Nat} (h : Ps L x f0 j f) (hr : Og.Reach (uL L) x (nmT L ix)) : Ps L x f0 j (markF f ix) := by
  refine ⟨fun t ht h0 => markF_up (h.sub t ht h0), fun t ht h1 => ?_, fun t ht hj hc u hu => markF_up (h.out t ht hj hc u hu)⟩
  by_cases e : t = ix
  · subst e; exact hr
  · exact h.snd t ht (by simpa [markF, e] using h1)
theorem Ps.reach {L : List Mo} {x : Nm} {f0 f : Nat → Bool} {j : Nat} (h : Ps L x f0 j f) (hn : (nmL L).Nodup) {t : Nat} (ht : t < L.length) (hc : f t = true ∨ nmT L t = x) {u : ByteArray} (hu : u ∈ L[t].uses) : Og.Reach (uL L) x u.data.toList := by
  have hm : u.data.toList ∈ uL L (nmT L t) := by rw [uL_T hn t ht]; exact List.mem_map.2 ⟨u, hu, rfl⟩
  rcases hc with hc | hc
  · exact .step (h.snd t ht hc) hm
  · rw [hc] at hm; exact .base hm
theorem Ps.next {L : List Mo} {x : Nm} {f0 f : Nat → Bool} {j : Nat} (h : Ps L x f0 j f) (hj : j < L.length) (hk : (f0 j = true ∨ nmT L j = x) → ∀ u ∈ L[j].uses, f ((nmL L).idxOf u.data.toList) = true) : Ps L x f0 (j + 1) f := by
  refine ⟨h.sub, h.snd, fun t ht hj' hc u hu => ?_⟩
  by_cases e : t = j
  · subst e; exact hk hc u hu
  · exact h.out t ht (by omega) hc u hu
def Tn (L : List Mo) (x : Nm) (m : Nat) (f : Nat → Bool) : Prop := Snd L x f ∧ (Full L x f ∨ m ≤ cntF L.length f)
theorem Tn.start (L : List Mo) (x : Nm) {f : Nat → Bool} (h : ∀ t, t < L.length → f t = false) : Tn L x 0 f := ⟨(fun t ht h1 => by rw [h t ht] at h1; cases h1), Or.inr (Nat.zero_le _)⟩
theorem full_of {L : List Mo} {x : Nm} {f : Nat → Bool} (hn : (nmL L).Nodup) (hx : x ∈ nmL L) (hu : usesIn L = true) (h : ∀ t (h : t < L.length), (f t = true ∨ nmT L t = x) → ∀ u ∈ L[t].uses, f ((nmL L).idxOf u.data.toList) = true) : Full L x f := by
  have key : ∀ y, Og.Reach (uL L) x y → y ∈ nmL L ∧ f ((nmL L).idxOf y) = true := by
    have one : ∀ t (ht : t < L.length), (f t = true ∨ nmT L t = x) → ∀ y ∈ uL L (nmT L t), y ∈ nmL L ∧ f ((nmL L).idxOf y) = true := by
      intro t ht hc y hy
      rw [uL_T hn t ht] at hy
      obtain ⟨u, hu1, rfl⟩ := List.mem_map.1 hy
      exact ⟨uses_in hu t ht u hu1, h t ht hc u hu1⟩
    intro y hy
    induction hy with
    | base hb => exact one _ (ix_lt hx) (Or.inr (nmT_ix hx)) _ (by rw [nmT_ix hx]; exact hb)
    | step _ hs ih => exact one _ (ix_lt ih.1) (Or.inl ih.2) _ (by rw [nmT_ix ih.1]; exact hs)
  intro t ht hr
  have := (key _ hr).2
  rw [nmT_at L t ht, idx_of hn (nm_at L t ht)] at this
  exact this
theorem Tn.turn {L : List Mo} {x : Nm} {m : Nat} {f0 f : Nat → Bool} (h : Tn L x m f0) (hp : Ps L x f0 L.length f) (hn : (nmL L).Nodup) (hx : x ∈ nmL L) (hu : usesIn L = true) : Tn L x (m + 1) f := by
  refine ⟨hp.snd, ?_⟩
  rcases h.2 with hF | hm
  · exact Or.inl fun t ht hr => hp.sub t ht (hF t ht hr)
  · by_cases hs : ∃ t, t < L.length ∧ f t = true ∧ f0 t = false
    · have := cntF_lt L.length f0 f hp.sub hs
      exact Or.inr (by omega)
    · refine Or.inl (full_of hn hx hu fun t ht hc u hu1 => hp.out t ht ht ?_ u hu1)
      rcases hc with hc | hc
      · left
        cases h0 : f0 t with
        | true => rfl
        | false => exact (hs ⟨t, ht, hc, h0⟩).elim
      · exact Or.inr hc
theorem Tn.full {L : List Mo} {x : Nm} {m : Nat} {f : Nat → Bool} (h : Tn L x m f) (hm : L.length < m) : ∀ t, t < L.length → (f t = true ↔ Og.Reach (uL L) x (nmT L t)) := by
  intro t ht
  refine ⟨h.1 t ht, fun hr => ?_⟩
  rcases h.2 with hF | hc
  · exact hF t ht hr
  · have := cntF_le L.length f; omega
/- What is told, sorted: xs holds the marked of the first i. -/
abbrev nle (a b : ByteArray) : Prop := a.data.toList ≤ b.data.toList
structure So (L : List Mo) (f : Nat → Bool) (i : Nat) (xs : List ByteArray) : Prop where
  sorted : xs.Pairwise nle
  perm : (toN xs).Perm (((List.range i).filter f).map (nmT L))
theorem So.start (L : List Mo) (f : Nat → Bool) : So L f 0 [] := ⟨.nil, by simp [toN]⟩
theorem So.len {L : List Mo} {f : Nat → Bool} {i : Nat} {xs : List ByteArray} (h : So L f i xs) : xs.length ≤ i := by
  have h1 := h.perm.length_eq
  rw [toN, List.length_map, List.length_map] at h1
  have h2 := List.length_filter_le f (List.range i)
  rw [List.length_range] at h2
  omega
theorem So.no {L : List Mo} {f : Nat → Bool} {i : Nat} {xs : List ByteArray} (h : So L f i xs) (hf : f i = false) : So L f (i + 1) xs :=
  ⟨h.sorted, by rw [List.range_succ, List.filter_append]; simpa [hf] using h.perm⟩
def insK (xs : List ByteArray) (y : ByteArray) (k : Nat) : List ByteArray := xs.take k ++ y :: xs.drop k
theorem insK_len (xs : List ByteArray) (y : ByteArray) (k : Nat) : (insK xs y k).length = xs.length + 1 := by
  simp [insK]; omega
theorem insK_end (xs : List ByteArray) (y : ByteArray) : insK xs y xs.length = xs ++ [y] := by simp [insK]
theorem insK_at (xs : List ByteArray) (y : ByteArray) (k : Nat) (hk : k ≤ xs.length) : (insK xs y k)[k]? = some y := by
  unfold insK
  rw [List.getElem?_append_right (by simp; omega)]
  simp [Nat.min_eq_left hk]
theorem insK_pre (xs : List ByteArray) (y : ByteArray) (k : Nat) (hk : k < xs.length) : (insK xs y (k + 1))[k]? = some xs[k] := by
  unfold insK
  rw [List.getElem?_append_left (by simp; omega), List.getElem?_take, if_pos (by omega), List.getElem?_eq_getElem hk]
theorem insK_step (xs : List ByteArray) (y : ByteArray) (k : Nat) (hk : k < xs.length) : ((insK xs y (k + 1)).set k y).set (k + 1) xs[k] = insK xs y k := by
  apply List.ext_getElem?
  intro i
  have hl : (insK xs y (k + 1)).length = xs.length + 1 := insK_len _ _ _
  rw [List.getElem?_set, List.getElem?_set]
  simp only [List.length_set, hl]
  by_cases e1 : k + 1 = i
  · subst e1
    rw [if_pos rfl, if_pos (by omega)]
    unfold insK
    rw [List.getElem?_append_right (by simp; omega)]
    simp [Nat.min_eq_left (Nat.le_of_lt hk), hk]
  · rw [if_neg e1]
    by_cases e2 : k = i
    · subst e2
      rw [if_pos rfl, if_pos (by omega), insK_at xs y k (by omega)]
    · rw [if_neg e2]
      unfold insK
      rcases Nat.lt_or_ge i k with h | h
      · rw [List.getElem?_append_left (by simp; omega), List.getElem?_append_left (by simp; omega), List.getElem?_take, List.getElem?_take, if_pos (by omega), if_pos (by omega)]
      · rw [List.getElem?_append_right (by simp; omega), List.getElem?_append_right (by simp; omega)]
        simp only [List.length_take]
        rw [Nat.min_eq_left (by omega), Nat.min_eq_left (by omega)]
        obtain ⟨d, rfl⟩ : ∃ d, i = k + 2 + d := ⟨i - (k + 2), by omega⟩
        rw [show k + 2 + d - (k + 1) = d + 1 from by omega, show k + 2 + d - k = d + 2 from by omega]
        simp only [List.getElem?_cons_succ, List.getElem?_drop]
        congr 1
        omega
theorem insK_perm (xs : List ByteArray) (y : ByteArray) (k : Nat) : (insK xs y k).Perm (xs ++ [y]) := by
  unfold insK
  have h1 : (xs.take k ++ y :: xs.drop k).Perm (y :: (xs.take k ++ xs.drop k)) := List.perm_middle
  rw [List.take_append_drop] at h1
  exact h1.trans (List.perm_append_singleton y xs).symm
/- y has come down to k: all from k on are not less. -/
def Dn (xs : List ByteArray) (y : ByteArray) (k : Nat) : Prop := k ≤ xs.length ∧ ∀ z ∈ xs.drop k, nle y z
theorem Dn.start (xs : List ByteArray) (y : ByteArray) : Dn xs y xs.length := ⟨Nat.le_refl _, by simp⟩
theorem Dn.step {xs : List ByteArray} {y : ByteArray} {k : Nat} (h : Dn xs y (k + 1)) (hk : k < xs.length) (hg : y.data.toList < xs[k].data.toList) : Dn xs y k := by
  refine ⟨by omega, fun z hz => ?_⟩
  rw [List.drop_eq_getElem_cons hk] at hz
  rcases List.mem_cons.1 hz with rfl | hz
  · exact List.le_of_lt hg
  · exact h.2 z hz
theorem ins_sorted {xs : List ByteArray} {y : ByteArray} {k : Nat} (hs : xs.Pairwise nle) (h : Dn xs y k) (hz : ∀ (hk : 0 < k), nle (xs[k - 1]'(by have := h.1; omega)) y) : (insK xs y k).Pairwise nle := by
  unfold insK
  have hs' := hs
  rw [← List.take_append_drop k xs, List.pairwise_append] at hs'
  obtain ⟨h1, h2, h3⟩ := hs'
  rw [List.pairwise_append]
  refine ⟨h1, List.pairwise_cons.2 ⟨h.2, h2⟩, fun a ha b hb => ?_⟩
  have hay : nle a y := by
    obtain ⟨i, hi, rfl⟩ := List.getElem_of_mem ha
    rw [List.length_take] at hi
    have hk : 0 < k := by omega
    have hk2 := h.1
    rw [List.getElem_take]
    rcases Nat.lt_or_ge i (k - 1) with hlt | hge
    · exact List.le_trans (List.pairwise_iff_getElem.1 hs i (k - 1) (by omega) (by omega) hlt) (hz hk)
    · have e : i = k - 1 := by omega
      subst e
      exact hz hk
  rcases List.mem_cons.1 hb with rfl | hb
  · exact hay
  · exact h3 a ha b hb
theorem So.yes {L : List Mo} {f : Nat → Bool} {i k : Nat} {xs : List ByteArray} (h : So L f i xs) (hi : i < L.length) (hf : f i = true) (hd : Dn xs L[i].name k) (hz : ∀ (hk : 0 < k), nle (xs[k - 1]'(by have := hd.1; omega)) L[i].name) : So L f (i + 1) (insK xs L[i].name k) := by
  refine ⟨ins_sorted h.sorted hd hz, ?_⟩
  have hp : (toN (insK xs L[i].name k)).Perm (toN xs ++ [L[i].name.data.toList]) := by
    have := (insK_perm xs L[i].name k).map (fun s => s.data.toList)
    simpa [toN] using this
  rw [List.range_succ, List.filter_append, List.map_append]
  simp only [List.filter_cons, hf, if_true, List.filter_nil, List.map_cons, List.map_nil, nmT_at L i hi]
  exact hp.trans (h.perm.append_right _)
theorem So.needs {L : List Mo} {x : Nm} {f : Nat → Bool} {xs : List ByteArray} (h : So L f L.length xs) (hn : (nmL L).Nodup) (hx : x ∈ nmL L) (hu : usesIn L = true) (hf : ∀ t, t < L.length → (f t = true ↔ Og.Reach (uL L) x (nmT L t))) : NeedsIs L x (toN xs) := by
  have hin : ∀ t, t < L.length → ∀ y ∈ uL L (nmT L t), y ∈ nmL L := by
    intro t ht y hy
    rw [uL_T hn t ht] at hy
    obtain ⟨u, hu1, rfl⟩ := List.mem_map.1 hy
    exact uses_in hu t ht u hu1
  have hmem : ∀ y, y ∈ toN xs ↔ y ∈ nmL L ∧ Og.Reach (uL L) x y := by
    intro y
    rw [h.perm.mem_iff, List.mem_map]
    constructor
    · rintro ⟨t, ht, rfl⟩
      rw [List.mem_filter, List.mem_range] at ht
      exact ⟨nmT_mem L t ht.1, (hf t ht.1).1 ht.2⟩
    · rintro ⟨h1, h2⟩
      exact ⟨_, by rw [List.mem_filter, List.mem_range]; exact ⟨ix_lt h1, (hf _ (ix_lt h1)).2 (by rw [nmT_ix h1]; exact h2)⟩, nmT_ix h1⟩
  refine ⟨⟨?_, fun u hu1 => ?_, fun y hy u hu1 => ?_, fun y hy => ((hmem y).1 hy).2⟩, ⟨toN xs, ?_⟩, fun y hy => ((hmem y).1 hy).1⟩
  · rw [h.perm.nodup_iff]
    rw [List.nodup_iff_pairwise_ne, List.pairwise_map]
    refine List.Pairwise.imp_of_mem (R := fun a b => a ≠ b) ?_ (List.nodup_iff_pairwise_ne.1 (List.nodup_range.filter _))
    intro a b ha hb hne e
    rw [List.mem_filter, List.mem_range] at ha hb
    exact hne (nmT_inj hn ha.1 hb.1 e)
  · have := hin _ (ix_lt hx)
    rw [nmT_ix hx] at this
    exact (hmem u).2 ⟨this u hu1, .base hu1⟩
  · have h1 := (hmem y).1 hy
    have := hin _ (ix_lt h1.1)
    rw [nmT_ix h1.1] at this
    exact (hmem u).2 ⟨this u hu1, .step h1.2 hu1⟩
  · symm
    refine List.mergeSort_of_pairwise ?_
    rw [toN, List.pairwise_map]
    exact h.sorted.imp (fun h => by simp only [Og.le, decide_eq_true_eq]; exact h)
theorem needs_one {L : List Mo} {x : Nm} {l m : List Nm} (h : NeedsIs L x l) (k : NeedsIs L x m) : l = m := by
  obtain ⟨N, rfl⟩ := h.sort
  obtain ⟨M, rfl⟩ := k.sort
  have hp : (N.mergeSort Og.le).Perm (M.mergeSort Og.le) := (List.perm_ext_iff_of_nodup h.need.nodup k.need.nodup).2 fun y => (h.need.iff y).trans (k.need.iff y).symm
  exact mergeSort_of_perm ((List.mergeSort_perm _ _).symm.trans (hp.trans (List.mergeSort_perm _ _)))
theorem StrsIn.of_own {w : World} {base : Nat} {v : Value} {xs : List ByteArray} (h : SOwn w base v xs) : StrsIn w v (toN xs) := by
  have e : xs.map Value.string = (toN xs).map encStr := by
    rw [toN, List.map_map]
    refine List.map_congr_left fun s _ => ?_
    show Value.string s = encStr s.data.toList
    simp only [encStr]
  have h' := h
  unfold SOwn at h'
  rw [e] at h'
  exact StrsIn.of_row h' (by simp [toN])
end Go.Proofs.Ytplkbngnnaogkaa

namespace Go.Proofs.Ytplkbngnnaogkaa
open Go.RowKit Go.Maps

theorem Fl.drewN {w : World} {b n : Nat} {f : Nat → Bool} (h : Fl w b n f) (m : Nat) : Fl (w.drewN m) b n f := ⟨h.lt, h.cell, h.fz⟩
theorem SOwn.drewN {w : World} {base : Nat} {v : Value} {xs : List ByteArray} (h : SOwn w base v xs) (m : Nat) : SOwn (w.drewN m) base v xs := h
theorem SOwn.later {w w' : World} {base : Nat} {v : Value} {xs : List ByteArray} (h : SOwn w base v xs) (hb : Below w.heap.size w w') : SOwn w' base v xs := ownsRow_later h hb
theorem SOwn.at {w : World} {base g n cap : Nat} {xs : List ByteArray} (h : SOwn w base (.slice (some ⟨g, 0, none⟩) n cap) xs) (hn : n = xs.length) (j : Nat) {s : ByteArray} (hj : xs[j]? = some s) : w.cell? ⟨g, j, none⟩ = some (.string s) ∧ w.frozen? ⟨g, j, none⟩ = false ∧ g < w.heap.size := by
  subst hn
  have hlt : j < xs.length := by
    rcases Nat.lt_or_ge j xs.length with h | h
    · exact h
    · rw [List.getElem?_eq_none h] at hj; cases hj
  refine ⟨?_, World.ownsRow.frozenAt h j, (World.ownsRow.lt h g rfl).2⟩
  rw [World.ownsRow.cellAt h j (by omega), List.getElem?_map, hj]; rfl
theorem SOwn.put {w : World} {base g n cap : Nat} {xs : List ByteArray} (h : SOwn w base (.slice (some ⟨g, 0, none⟩) n cap) xs) (hn : n = xs.length) (j : Nat) (s : ByteArray) : SOwn (w.setCell ⟨g, j, none⟩ (.string s)) base (.slice (some ⟨g, 0, none⟩) n cap) (xs.set j s) := by
  subst hn
  have := (World.ownsRow.stored h j (.string s)).1
  unfold SOwn
  rw [List.length_set, List.map_set]
  exact this
set_option maxRecDepth 100000 in
set_option maxHeartbeats 4000000 in
theorem NeedsOf_any (L : List Mo) (a : Option Addr) (cap : Nat) (x : ByteArray) (w : World) (hD : DAt w Tt a L.length (mosD L)) (hS : ∀ m ∈ L, Small m) :
    Calls Try.prog 9 #[.slice a L.length cap, .string x] w fun e w' => needsEnd L x e w' ∧ Below w.heap.size w w' := by
  have hbd := hD.bound
  have HD := hid hD
  have HS := hid hS
  clear hD hS
  go_enter Try.func9, Try.ntmps9
  go_wp2_with fail
  refine (OrderError_any L a cap _ HD.out HS.out).mono ?_
  rintro e w1 ⟨rfl, hb1⟩
  by_cases he : ordE L = 0
  · obtain ⟨h4, hal, hn, hu⟩ := ordE_zero he
    have HE := hid he
    rw [he]
    clear he hal
    have HN := hid hn
    have HU := hid hu
    have HMn := hid (moduleNamed_any L a cap x _ (HD.out.later hb1) hn)
    clear hn hu
    cases hin : (nmL L).contains x.data.toList with
    | false =>
      rw [mn_neg hin] at HMn
      have HX : Hid (x.data.toList ∉ nmL L) := by show ¬ _; simpa using hin
      clear hin
      go_wp2_with fail
      refine HMn.out.mono ?_
      rintro e w2 ⟨rfl, rfl⟩
      go_wp2_with fail
      go_ret2
      exact ⟨Or.inr (Or.inl ⟨HE.out, HX.out, rfl⟩), hb1⟩
    | true =>
    rw [mn_pos hin] at HMn
    have HX : Hid (x.data.toList ∈ nmL L) := List.contains_iff_mem.1 hin
    clear hin
    generalize (nmL L).idxOf x.data.toList = ix at *
    go_wp2_with fail
    refine HMn.out.mono ?_
    rintro e w2 ⟨rfl, rfl⟩
    have hmk := make_fls L.length (by omega) w2
    have HF0 : Hid (Fl (w2.alloc (.cells (fls L.length) 4)) w2.heap.size L.length (fun _ => false)) := fls_row w2 L.length
    have HB0 : Hid (Below w.heap.size w (w2.alloc (.cells (fls L.length) 4))) := hb1.alloc hb1.size _
    have hz1 := hb1.size
    have HI : Hid (∃ i0, Try.prog.info? 9 = some i0 ∧ i0.zero = some (.string .empty) ∧ i0.size = 1 ∧ i0.bytes = 16) := info_parts Try.infoStr
    clear hb1 HMn
    generalize hdb : w2.heap.size = db at *
    go_wp2_with fail
    go_loopw [8, 9, 10] (fun v _ _ wr => ∃ (m : Nat) (f : Nat → Bool), m ≤ L.length + 1 ∧ v = .int .i64 m ∧ Hid (Tn L x.data.toList m f) ∧ Fl wr db L.length f ∧ Below w.heap.size w wr) (fun v _ _ _ => L.length + 1 - (intOf v).toNat)
    case atStart => exact ⟨0, _, Nat.zero_le _, rfl, Tn.start _ _ (fun _ _ => rfl), HF0.out, HB0.out⟩
    case round =>
      clear HF0 HB0 hmk
      obtain ⟨m, f, hm, rfl, HT, hfl, hbx⟩ := hrel
      have HFl := hid hfl
      clear hfl
      by_cases hle : m ≤ L.length
      · have hleZ : (m : Int) ≤ (L.length : Int) := by omega
        go_wp2_with fail
        go_loopw [9, 10] (fun v _ wq => ∃ (j : Nat) (g : Nat → Bool), j ≤ L.length ∧ v = .int .i64 j ∧ Hid (Ps L x.data.toList f j g) ∧ Fl wq db L.length g ∧ Below w.heap.size w wq) (fun v _ _ => L.length - (intOf v).toNat)
        case atStart => exact ⟨0, f, Nat.zero_le _, rfl, Ps.start HT.out.1, HFl.out, hbx⟩
        case round =>
          clear HFl hbx
          obtain ⟨j, g, hj, rfl, HP, hfl, hby⟩ := hrel
          have HFl := hid hfl
          clear hfl
          by_cases hlt : j < L.length
          · obtain ⟨b, off, v, a1, c1, a2, c2, a3, c3, a4, c4, rfl, hlb, hM, k0, k1, k2, k3, k4⟩ := HD.out.mo j hlt
            have HUs := hid hM.uses
            have hub := hM.uses.bound
            clear hM k2 k3 k4 v
            go_wp2_with fail
            go_loopw [10] (fun v wz => ∃ (k : Nat) (g2 : Nat → Bool), k ≤ L[j].uses.length ∧ v = .int .i64 k ∧ Hid (Ps L x.data.toList f j g2) ∧ Hid ((f j = true ∨ nmT L j = x.data.toList) → ∀ u ∈ L[j].uses.take k, g2 ((nmL L).idxOf u.data.toList) = true) ∧ Fl wz db L.length g2 ∧ Below w.heap.size w wz) (fun v _ => L[j].uses.length - (intOf v).toNat)
            case atStart => exact ⟨0, g, Nat.zero_le _, rfl, HP, (fun _ u hu => by simp at hu), HFl.out, hby⟩
            case round =>
              clear HFl hby HP
              obtain ⟨k, g2, hk, rfl, HP, HQ, hfl, hbz⟩ := hrel
              have HFl := hid hfl
              have hdj := hfl.cell j hlt
              have hdz := hfl.lt
              clear hfl
              have k0' := (hbz.cell (p := ⟨b, off + j * 5, none⟩) hlb).trans k0
              have k1' := (hbz.cell (p := ⟨b, off + j * 5 + 1, none⟩) hlb).trans k1
              have hlb' : b < wr.heap.size := Nat.lt_of_lt_of_le hlb hbz.size
              by_cases hkl : k < L[j].uses.length
              · have hin : (nmL L).contains L[j].uses[k].data.toList = true := by
                  rw [List.contains_iff_mem]; exact uses_in HU.out j hlt _ (List.getElem_mem hkl)
                have HMn := hid (moduleNamed_any L (some ⟨b, off, none⟩) cap L[j].uses[k] _ (HD.out.later hbz) HN.out)
                rw [mn_pos hin] at HMn
                have hmem := List.contains_iff_mem.1 hin
                have hix := ix_lt hmem
                have hixn := nmT_ix hmem
                clear hin
                have HNx : Hid ((g2 j = true ∨ nmT L j = x.data.toList) → Ps L x.data.toList f j (markF g2 ((nmL L).idxOf L[j].uses[k].data.toList)) ∧ ((f j = true ∨ nmT L j = x.data.toList) → ∀ u ∈ L[j].uses.take (k + 1), markF g2 ((nmL L).idxOf L[j].uses[k].data.toList) ((nmL L).idxOf u.data.toList) = true)) := by
                  intro hc
                  refine ⟨HP.out.mark (by rw [hixn]; exact HP.out.reach HN.out hlt hc (List.getElem_mem hkl)), fun hc2 u hu => ?_⟩
                  rw [List.take_succ_eq_append_getElem hkl] at hu
                  rcases List.mem_append.1 hu with h | h
                  · exact markF_up (HQ.out hc2 u h)
                  · simp at h; subst h; exact markF_at _ _
                have HS2 : Hid (Fl (wr.setCell ⟨db, (nmL L).idxOf L[j].uses[k].data.toList, none⟩ (.bool true)) db L.length (markF g2 ((nmL L).idxOf L[j].uses[k].data.toList))) := HFl.out.set _ hix (fun _ _ => rfl)
                have hcy := HFl.out.cell _ hix
                have hfy := HFl.out.fz ((nmL L).idxOf L[j].uses[k].data.toList)
                have hb2 : Below w.heap.size w (wr.setCell ⟨db, (nmL L).idxOf L[j].uses[k].data.toList, none⟩ (.bool true)) := hbz.setCell (p := ⟨db, _, none⟩) hz1 _
                obtain ⟨ub, uo, hue, hul, huc, hus⟩ := (HUs.out.later hbz).str k hkl
                subst hue
                have hstop : Hid (g2 j = false → (L[j].name.toList == x.toList) = false → Ps L x.data.toList f (j + 1) g2) := by
                  intro h1 h2
                  refine HP.out.next hlt fun hc => ?_
                  rcases hc with hc | hc
                  · rw [HP.out.sub j hlt hc] at h1; cases h1
                  · rw [nmT_at L j hlt] at hc
                    rw [str_eq, hc] at h2
                    simp at h2
                clear hmem hixn
                generalize (nmL L).idxOf L[j].uses[k].data.toList = ix at *
                have hixZ : (ix : Int) < (L.length : Int) := by omega
                cases hg : g2 j with
                | true =>
                  obtain ⟨hp1, hp2⟩ := HNx.out (Or.inl hg)
                  have HP1 := hid hp1
                  have HP2 := hid hp2
                  rw [hg] at hdj
                  clear hp1 hp2 HNx hstop
                  go_wp2_with fail
                  refine HMn.out.mono ?_
                  rintro e w6 ⟨rfl, rfl⟩
                  go_wp2_with fail
                  go_roundw
                  case rel => exact ⟨k + 1, _, by omega, by go_num, HP1, HP2, HS2.out, hb2⟩
                  case measure => simp [intOf]; omega
                | false =>
                  rw [hg] at hdj
                  cases hnx : (L[j].name.toList == x.toList) with
                  | true =>
                    obtain ⟨hp1, hp2⟩ := HNx.out (Or.inr (by rw [nmT_at L j hlt]; rw [str_eq] at hnx; exact (beq_iff_eq.1 hnx).symm))
                    have HP1 := hid hp1
                    have HP2 := hid hp2
                    clear hp1 hp2 HNx hstop
                    go_wp2_with fail
                    refine HMn.out.mono ?_
                    rintro e w6 ⟨rfl, rfl⟩
                    go_wp2_with fail
                    go_roundw
                    case rel => exact ⟨k + 1, _, by omega, by go_num, HP1, HP2, HS2.out, hb2⟩
                    case measure => simp [intOf]; omega
                  | false =>
                    have HP1 := hid (hstop.out hg hnx)
                    clear HNx hstop HS2 hcy hfy hb2 HMn
                    go_wp2_with fail
                    go_roundw
                    case rel => exact ⟨j + 1, g2, by omega, by go_num, HP1, HFl.out, hbz⟩
                    case measure => simp [intOf]; omega
              · have HP1 : Hid (Ps L x.data.toList f (j + 1) g2) := HP.out.next hlt (fun hc u hu => HQ.out hc u (by rw [List.take_of_length_le (by omega)]; exact hu))
                go_wp2_with fail
                go_roundw
                case rel => exact ⟨j + 1, g2, by omega, by go_num, HP1, HFl.out, hbz⟩
                case measure => simp [intOf]; omega
          · have hje : j = L.length := by omega
            subst hje
            have HT2 : Hid (Tn L x.data.toList (m + 1) g) := HT.out.turn HP.out HN.out HX.out HU.out
            clear HP
            go_wp2_with fail
            go_roundw
            case rel => exact ⟨m + 1, g, by omega, by go_num, HT2, HFl.out, hby⟩
            case measure => simp [intOf]; omega
      · have hleZ : ¬ ((m : Int) ≤ (L.length : Int)) := by omega
        have HFu : Hid (∀ t, t < L.length → (f t = true ↔ Og.Reach (uL L) x.data.toList (nmT L t))) := HT.out.full (by omega)
        clear HT
        go_wp2_with fail
        go_loopw [11, 12, 13, 14, 15] (fun v i _ _ _ wq => ∃ (j : Nat) (xs : List ByteArray), j ≤ L.length ∧ i = .int .i64 j ∧ Hid (So L f j xs) ∧ SOwn wq w.heap.size v xs ∧ v.ownBlock ≠ some db ∧ Fl wq db L.length f ∧ Below w.heap.size w wq) (fun _ i _ _ _ _ => L.length - (intOf i).toNat)
        case atStart => exact ⟨0, [], Nat.zero_le _, rfl, So.start _ _, World.ownsRow_nil _ _ _ _, by simp [Value.ownBlock], HFl.out, hbx⟩
        case round =>
          clear HFl hbx
          obtain ⟨j, xs, hj, rfl, HSo, hown, hne, hfl, hby⟩ := hrel
          have HFl := hid hfl
          have HNe := hid hne
          obtain ⟨sa, sc, rfl, hk⟩ := hown.shape
          have HO := hid hown
          have HL := hid hk
          have hxl := HSo.out.len
          clear hown hk hne
          by_cases hlt : j < L.length
          · have hfj := hfl.cell j hlt
            have hdz := hfl.lt
            clear hfl
            cases hf : f j with
            | false =>
              rw [hf] at hfj
              have HS2 : Hid (So L f (j + 1) xs) := HSo.out.no hf
              go_wp2_with fail
              go_roundw
              case rel => exact ⟨j + 1, xs, by omega, by go_num, HS2, HO.out, HNe.out, HFl.out, hby⟩
              case measure => simp [intOf]; omega
            | true =>
              rw [hf] at hfj
              obtain ⟨b, off, v, a1, c1, a2, c2, a3, c3, a4, c4, rfl, hlb, hM, k0, k1, k2, k3, k4⟩ := (HD.out.later hby).mo j hlt
              clear hM k1 k2 k3 k4 v
              have hsz := hby.size
              have HO4 : Hid (wr.ownsRow w.heap.size 9 1 (.slice sa xs.length sc) xs.length (xs.map .string)) := HO.out
              obtain ⟨i0, hi0, hz0, hz1', hz2⟩ := HI.out
              clear HO
              go_wp2_with (at_builtin; refine wpList_append_lies _ rfl _ _ 27 rfl w.heap.size 9 i0 _ 1 16 Try.underlying27 hi0 hz0 hz1' hz2 rfl (by decide) _ xs.length (xs.map .string) rfl (HO4.out.alloc _) _ 1 1 [.string L[j].name] rfl rfl (one_new _ _ _ _ (by simp)) (by simp [Value.oneCell']) (by omega) (by unfold maxLen; omega) (by omega) (by simp; omega) _ rfl ?_; intro gb cp w8 hown8 hg8 hat8 hlt8)
              have hg : wr.grownBy w8 (Value.slice sa xs.length sc).ownBlock := (World.grownBy_alloc wr _ _).trans hg8
              have hb8 : Below w.heap.size w w8 := hby.grown hg hsz HL.out
              have HF8 : Hid (Fl w8 db L.length f) := HFl.out.kept hg (fun e => HNe.out e.symm)
              have hne8 : gb ≠ db := by
                intro e
                rcases hat8 with h | h
                · have h' : (Value.slice sa xs.length sc).ownBlock = some gb := h
                  exact HNe.out (by rw [h', e])
                · simp at h; omega
              have HW : Hid (SOwn w8 w.heap.size (.slice (some ⟨gb, 0, none⟩) (xs.length + 1) cp) (insK xs L[j].name xs.length)) := by
                show SOwn _ _ _ _
                unfold SOwn
                rw [insK_end, List.length_append, List.map_append]
                exact hown8
              have HNe8 := hid hne8
              have hgl : w.heap.size ≤ gb := (World.ownsRow.lt hown8 gb rfl).1
              clear hown8 hg8 hat8 hg hne8 HFl HNe HO4 HL hfj hdz k0 hlb
              go_loopw [13, 14, 15] (fun v _ _ wz => ∃ q : Nat, v = .int .i64 q ∧ Hid (Dn xs L[j].name q) ∧ SOwn wz w.heap.size (.slice (some ⟨gb, 0, none⟩) (xs.length + 1) cp) (insK xs L[j].name q) ∧ Fl wz db L.length f ∧ Below w.heap.size w wz) (fun v _ _ _ => (intOf v).toNat)
              case atStart => exact ⟨xs.length, by go_num, Dn.start _ _, HW.out, HF8.out, hb8⟩
              case round =>
                clear HW HF8 hb8
                obtain ⟨q, rfl, HDn, hown, hfl, hbz⟩ := hrel
                have hq := HDn.out.1
                have HFl := hid hfl
                have HOw := hid hown
                clear hfl hown
                cases q with
                | zero =>
                  have HS2 : Hid (So L f (j + 1) (insK xs L[j].name 0)) := HSo.out.yes hlt hf HDn.out (fun h => absurd h (by omega))
                  have hlen := insK_len xs L[j].name 0
                  go_wp2_with fail
                  go_quiet ((fail))
                  go_wp2_with fail
                  go_roundw
                  case rel => exact ⟨j + 1, _, by omega, by go_num, HS2, by first | exact HOw.out | (rw [hlen]; exact HOw.out), by simp [Value.ownBlock]; exact HNe8.out, HFl.out.drewN _, below_drewN hbz _⟩
                  case measure => simp [intOf]; omega
                | succ q =>
                  have hq' : q < xs.length := by omega
                  obtain ⟨c1, z1, g1⟩ := HOw.out.at (insK_len _ _ _).symm q (insK_pre xs L[j].name q hq')
                  obtain ⟨c2, z2, _⟩ := HOw.out.at (insK_len _ _ _).symm (q + 1) (insK_at xs L[j].name (q + 1) hq)
                  have HLs : Hid (Op.bytesLess xs[q].toList L[j].name.toList = decide (xs[q].data.toList < L[j].name.data.toList)) := less_eq _ _
                  have HEq : Hid ((xs[q].toList == L[j].name.toList) = (L[j].name.data.toList == xs[q].data.toList)) := str_eq _ _
                  have hlen := insK_len xs L[j].name (q + 1)
                  cases hl : Op.bytesLess xs[q].toList L[j].name.toList with
                  | true =>
                    have HS2 : Hid (So L f (j + 1) (insK xs L[j].name (q + 1))) := HSo.out.yes hlt hf HDn.out (fun h => List.le_of_lt (of_decide_eq_true (HLs.out.symm.trans hl)))
                    clear HLs HEq
                    go_wp2_with fail
                    go_quiet ((fail))
                    go_wp2_with fail
                    go_roundw
                    case rel => exact ⟨j + 1, _, by omega, by go_num, HS2, by first | exact HOw.out | (rw [hlen]; exact HOw.out), by simp [Value.ownBlock]; exact HNe8.out, HFl.out.drewN _, below_drewN hbz _⟩
                    case measure => simp [intOf]; omega
                  | false =>
                  cases hq3 : (xs[q].toList == L[j].name.toList) with
                  | true =>
                    have HS2 : Hid (So L f (j + 1) (insK xs L[j].name (q + 1))) := HSo.out.yes hlt hf HDn.out (fun h => by
                      have h1 := beq_iff_eq.1 (HEq.out.symm.trans hq3)
                      show xs[q].data.toList ≤ L[j].name.data.toList
                      rw [h1]; exact List.le_refl _)
                    clear HLs HEq
                    go_wp2_with fail
                    go_quiet ((fail))
                    go_wp2_with fail
                    go_roundw
                    case rel => exact ⟨j + 1, _, by omega, by go_num, HS2, by first | exact HOw.out | (rw [hlen]; exact HOw.out), by simp [Value.ownBlock]; exact HNe8.out, HFl.out.drewN _, below_drewN hbz _⟩
                    case measure => simp [intOf]; omega
                  | false =>
                    have hD2 : L[j].name.data.toList < xs[q].data.toList := by
                      have h1 := of_decide_eq_false (HLs.out.symm.trans hl)
                      have h2 : ¬ L[j].name.data.toList = xs[q].data.toList := by
                        have := HEq.out.symm.trans hq3
                        simpa using this
                      rcases List.le_iff_lt_or_eq.1 (List.not_lt.1 h1) with h | h
                      · exact h
                      · exact absurd h h2
                    have HD2 : Hid (Dn xs L[j].name q) := HDn.out.step hq' hD2
                    have HO2 : Hid (SOwn ((wr.setCell ⟨gb, q, none⟩ (.string L[j].name)).setCell ⟨gb, q + 1, none⟩ (.string xs[q])) w.heap.size (.slice (some ⟨gb, 0, none⟩) (xs.length + 1) cp) (insK xs L[j].name q)) := by
                      have h1 := (HOw.out.put (insK_len _ _ _).symm q L[j].name).put (by simp [insK_len]) (q + 1) xs[q]
                      rw [insK_step xs L[j].name q hq'] at h1
                      exact h1
                    have HF2 : Hid (Fl ((wr.setCell ⟨gb, q, none⟩ (.string L[j].name)).setCell ⟨gb, q + 1, none⟩ (.string xs[q])) db L.length f) := (HFl.out.kept (put_grown _ _ _ _) (fun e => HNe8.out (Option.some.inj e).symm)).kept (put_grown _ _ _ _) (fun e => HNe8.out (Option.some.inj e).symm)
                    have hb2 : Below w.heap.size w ((wr.setCell ⟨gb, q, none⟩ (.string L[j].name)).setCell ⟨gb, q + 1, none⟩ (.string xs[q])) := (hbz.setCell (p := ⟨gb, q, none⟩) hgl _).setCell (p := ⟨gb, q + 1, none⟩) hgl _
                    clear HLs HEq HDn HOw HFl hD2
                    go_wp2_with fail
                    go_quiet ((fail))
                    go_wp2_with fail
                    go_quiet ((fail))
                    go_wp2_with fail
                    go_roundw
                    case rel => exact ⟨q, by go_num, HD2, HO2.out.drewN _, HF2.out.drewN _, below_drewN hb2 _⟩
                    case measure => simp [intOf]
          · have hje : j = L.length := by omega
            subst hje
            have HNd : Hid (NeedsIs L x.data.toList (toN xs)) := HSo.out.needs HN.out HX.out HU.out HFu.out
            have HV : Hid (StrsIn wr (.slice sa xs.length sc) (toN xs)) := StrsIn.of_own HO.out
            clear hfl HL HO
            go_wp2_with fail
            go_ret2
            exact ⟨Or.inr (Or.inr ⟨_, _, HE.out, HX.out, HNd.out, rfl, HV.out⟩), hby⟩
  · have hne : (ordE L == 0) = false := by simpa using he
    go_wp2_with fail
    go_ret2
    exact ⟨Or.inl ⟨he, rfl⟩, hb1⟩
end Go.Proofs.Ytplkbngnnaogkaa
