/-
  Package sem: each unit, with those that it uses.
-/
import Derived.Test.YtndkhgakfodldaaGreatDoorUn
import Derived.Test.YtndkhgakfodldaaGreatDoorUi
namespace Go.Proofs.YtndkhgakfodldaaGreatDoor
open Go.RowKit Go.Maps Go.WideMaps
set_option linter.unusedSimpArgs false
set_option linter.unusedVariables false
set_option maxRecDepth 100000

theorem append_own {P : Program} {ops : Array Oper} {rest : List Oper} {o : Oper} {a : Act} {Q : Exit → Act → World → Prop} (hgd : o.guard = none) (s x : Operand) (t : TypeId)
    (ho : o.op = .call { callee := .builtin .append, args := #[s, x], argTypes := #[t, t] }) (base : Nat) (e : TypeId) (z : Value) (size bytes : Nat) (ht : P.underlying t = some (.slice e))
    (hi : (P.info? e).map (fun i => (i.zero, i.size, i.bytes)) = some (some z, size, bytes)) (hzs : z.cells.size = size) (hsz : 0 < size) (w : World) (v : Value) (n : Nat) (xs : List Value) (hs : a.eval s = v) (hrow : w.ownsRow base e size v n xs)
    (cs : Array Value) (H : Nat) (hH : H = w.heap.size) (hx : a.eval x = .slice (some ⟨H, 0, none⟩) 1 1) (hcs : cs.size = size) (h1 : ∀ u ∈ cs.toList, u.oneCell' = true)
    (hn : n ≤ 2000000) (hby : bytes ≤ 200) (hbase : base ≤ w.heap.size)
    (h : ∀ g cap w', w'.ownsRow base e size (.slice (some ⟨g, 0, none⟩) (n + 1) cap) (n + 1) (xs ++ cs.toList) → Below base w w' → w.heap.size < w'.heap.size → wpList P ops Q rest (a.put o.dst (.slice (some ⟨g, 0, none⟩) (n + 1) cap)) w') :
    wpList P ops Q (o :: rest) a (w.alloc (.cells cs e)) := by
  obtain ⟨i0, hi, hz0, hz1, hz2⟩ := info_parts hi
  have hsize : (w.alloc (.cells cs e)).heap.size = w.heap.size + 1 := by simp
  refine wpList_append_lies (w.alloc (.cells cs e)) hgd s x t ho base e i0 z size bytes ht hi hz0 hz1 hz2 hzs hsz v n xs hs (hrow.alloc _) ⟨H, 0, none⟩ 1 1 cs.toList hx (by simp [hcs]) ?_ h1 (by omega) (by unfold maxLen; omega) ?_ (by omega) _ rfl ?_
  · intro j u hj
    subst hH
    have : (⟨w.heap.size, 0, none⟩ : Addr).add j = ⟨w.heap.size, j, none⟩ := by unfold Addr.add; split <;> simp_all
    rw [this, Lib.cell_of_heap (heap_newP w _)]
    simpa using hj
  · have : (n + 1) * bytes ≤ 2000001 * 200 := Nat.mul_le_mul (by omega) hby
    omega
  · intro g cap w' hown' hgrow hat hlt
    have hbel : Below base w w' := ((Below.refl base w).alloc hbase _).grown hgrow (by omega) (fun k hk => (hrow.lt k hk).1)
    have hgz := hgrow.size
    exact h g cap w' hown' hbel (by omega)
theorem Tryz.infoUnit : (Tryz.prog.info? 42).map (fun i => (i.zero, i.size, i.bytes)) = some (some (.agg #[.string ⟨#[]⟩, .slice none 0 0, .int .i64 0, .slice none 0 0, .slice none 0 0]), 5, 96) := by kernel_rfl
def un0 : Un := ⟨⟨#[]⟩, [], 0, [], []⟩
def findU (l : List Un) (s : ByteArray) : Un := (l.find? (fun u => decide (u.name = s))).getD un0
def usesU (l : List Un) (u : Un) : List Un := u.uses.map (findU l)
def oneU (l : List Un) (u : Un) : Bool := holdB u (numU (usesU l u)) (prtU (usesU l u))
def formB (l : List Un) : Bool := l.all (oneU l)
theorem oneU_data {l : List Un} {u : Un} (h : oneU l u = true) : 0 ≤ u.data ∧ u.data ≤ 512 := by
  unfold oneU holdB at h
  simp only [Bool.and_eq_true] at h
  exact headB_data h.1
/- Names that are all different. -/
def Apart (l : List Un) : Prop := ∀ i j (hi : i < l.length) (hj : j < l.length), l[i].name = l[j].name → i = j
theorem nodup_of_dup : ∀ l : List (List UInt8), Fx.dupB l = false → ∀ i j (hi : i < l.length) (hj : j < l.length), l[i] = l[j] → i = j := by
  apply Fx.list_snoc_ind
  · intro _ i j hi; simp at hi
  · intro l s ih h i j hi hj e
    rw [Fx.dup_snoc, Bool.or_eq_false_iff] at h
    have hm : s ∉ l := of_decide_eq_false h.2
    rw [List.length_append, List.length_singleton] at hi hj
    rcases Nat.lt_or_ge i l.length with h1 | h1
    · rcases Nat.lt_or_ge j l.length with h2 | h2
      · rw [List.getElem_append_left h1, List.getElem_append_left h2] at e
        exact ih h.1 i j h1 h2 e
      · obtain rfl : j = l.length := by omega
        rw [List.getElem_append_left h1, List.getElem_concat_length] at e
        exact absurd (e ▸ List.getElem_mem h1) hm
        rfl
    · obtain rfl : i = l.length := by omega
      rcases Nat.lt_or_ge j l.length with h2 | h2
      · rw [List.getElem_append_left h2, List.getElem_concat_length] at e
        exact absurd (e ▸ List.getElem_mem h2) hm
        rfl
      · omega
theorem apart_of {l : List Un} (h : Fx.dupB (Fx.lists (namesU l)) = false) : Apart l := by
  intro i j hi hj e
  refine nodup_of_dup _ h i j (by simpa [Fx.lists, namesU] using hi) (by simpa [Fx.lists, namesU] using hj) ?_
  simp only [Fx.lists, namesU, List.getElem_map]
  rw [e]
theorem findU_at {l : List Un} (h : Apart l) (i : Nat) (hi : i < l.length) : findU l l[i].name = l[i] := by
  unfold findU
  have : l.find? (fun u => decide (u.name = l[i].name)) = some l[i] := by
    rw [List.find?_eq_some_iff_getElem]
    refine ⟨decide_eq_true rfl, i, hi, rfl, fun j hj => ?_⟩
    have : ¬ l[j].name = l[i].name := fun e => by have := h j i (by omega) hi e; omega
    rw [decide_eq_false this]; rfl
  rw [this]; rfl
theorem locL_spec (s : ByteArray) : ∀ ns : List ByteArray, s ∈ ns → ∃ i, ∃ hi : i < ns.length, locL ns s = some (i : Int) ∧ ns[i] = s := by
  apply Fx.list_snoc_ind
  · intro h; cases h
  · intro l a ih h
    rw [locL_snoc]
    unfold updL
    by_cases e : s = a
    · subst e
      exact ⟨l.length, by simp, if_pos rfl, by simp⟩
    · rw [if_neg e]
      obtain ⟨i, hi, h1, h2⟩ := ih ((List.mem_append.1 h).elim id (fun k => absurd (List.mem_singleton.1 k) e))
      exact ⟨i, by rw [List.length_append]; omega, h1, by rw [List.getElem_append_left hi]; exact h2⟩
theorem aheadTo_at {l : List Un} : ∀ (k : Nat), aheadTo l k = true → ∀ j (hj : j < l.length), j < k → ∀ s ∈ l[j].uses, s ∈ namesU (l.take j)
  | 0, _, j, _, hk => by omega
  | k + 1, h, j, hj, hk => by
    rw [aheadTo, Bool.and_eq_true] at h
    rcases Nat.lt_or_ge j k with h1 | h1
    · exact aheadTo_at k h.1 j hj h1
    · obtain rfl : j = k := by omega
      rw [List.getElem?_eq_getElem hj] at h
      intro s hs
      exact memB_iff.1 (List.all_eq_true.1 h.2 s hs)
/- A use is a unit ahead. -/
theorem use_at {l : List Un} (hA : aheadB l = true) (hN : Apart l) {j : Nat} (hj : j < l.length) {s : ByteArray} (hs : s ∈ l[j].uses) :
    ∃ i, ∃ hi : i < l.length, i < j ∧ locL (namesU (l.take (j + 1))) s = some (i : Int) ∧ findU l s = l[i] := by
  have hm := aheadTo_at l.length hA j hj hj s hs
  have hm' : s ∈ namesU (l.take (j + 1)) := by rw [namesU_take l j hj]; exact List.mem_append_left _ hm
  obtain ⟨i, hi, h1, h2⟩ := locL_spec s _ hm'
  have hi' : i < l.length := by unfold namesU at hi; rw [List.length_map, List.length_take] at hi; omega
  have e : l[i].name = s := by
    rw [← h2]; simp only [namesU, List.getElem_map, List.getElem_take]
  obtain ⟨p, hp, e2⟩ := List.getElem_of_mem hm
  have hp' : p < j ∧ p < l.length := by unfold namesU at hp; rw [List.length_map, List.length_take] at hp; omega
  have e3 : l[p].name = s := by
    rw [← e2]; simp only [namesU, List.getElem_map, List.getElem_take]
  have := hN i p hi' hp'.2 (e.trans e3.symm)
  exact ⟨i, hi', by omega, h1, by rw [← e]; exact findU_at hN i hi'⟩
theorem unsD_snoc (l : List Un) (u : Un) : unsD (l ++ [u]) = unsD l ++ u.ds := by unfold unsD; simp
theorem dat_own {w0 W : World} {base : Nat} {v : Value} {us : List Un} {xs : List Value} (h : W.ownsRow base 42 5 v us.length xs) (hx : DVals w0 Tt (unsD us) xs) (hb : Below w0.heap.size w0 W) (hl : us.length ≤ 2000000) : ∃ a cap, v = .slice a us.length cap ∧ DAt W Tt a us.length (unsD us) := by
  have hlen : (unsD us).length = us.length * 5 := by
    have : ∀ l : List Un, (unsD l).length = l.length * 5 := by
      intro l; induction l with
      | nil => rfl
      | cons a r ih => unfold unsD at ih ⊢; rw [List.flatMap_cons, List.length_append, ih, List.length_cons]; unfold Un.ds; simp; omega
    exact this us
  rcases h.2 with ⟨rfl, h0⟩ | ⟨g, cap, cur, rfl, _, hg, _⟩
  · exact ⟨none, 0, by rw [h0], ⟨by omega, by omega, Or.inl h0⟩⟩
  · refine ⟨some ⟨g, 0, none⟩, cap, rfl, ⟨by omega, by omega, Or.inr ⟨g, 0, xs, rfl, trivial, lt_of_heap hg, fun j u hj => ?_, hx.moves (Moves.of_below hb Tt)⟩⟩⟩
    have := h.cells (g := g) rfl j u hj
    rw [show (⟨g, 0, none⟩ : Addr).add j = ⟨g, j, none⟩ from by unfold Addr.add; split <;> simp_all] at this
    rw [Nat.zero_add]; exact this
theorem un_vals {w : World} {b o : Nat} {x : Un} {a1 : Option Addr} {k1 : Nat} {a2 : Option Addr} {k2 : Nat} {a3 : Option Addr} {k3 : Nat} (h : UnAt w Tt b o x a1 k1 a2 k2 a3 k3) : DVals w Tt x.ds (#[.string x.name, .slice a1 x.uses.length k1, .int .i64 x.data, .slice a2 x.parts.length k2, .slice a3 x.main.length k3] : Array Value).toList := by
  unfold Un.ds
  exact .cons (dstr h.w0) (.cons h.uses'.val (.cons (dint h.w2) (.cons h.parts'.val (.cons h.main'.val .nil))))
theorem UnAt.uv {w : World} {b o : Nat} {x : Un} {a1 : Option Addr} {k1 : Nat} {a2 : Option Addr} {k2 : Nat} {a3 : Option Addr} {k3 : Nat} (h : UnAt w Tt b o x a1 k1 a2 k2 a3 k3) : UvAt w x a1 k1 a2 k2 a3 k3 := ⟨h.w0, h.uses', h.w2, h.parts', h.main'⟩
set_option maxHeartbeats 6400000 in
theorem formHolds_any (l : List Un) (a : Option Addr) (cap : Nat) (w : World) (hD : DAt w Tt a l.length (unsD l)) (h4 : l.length ≤ 4) (hA : aheadB l = true) (hN : Fx.dupB (Fx.lists (namesU l)) = false) (hS : ∀ u ∈ l, u.uses.length ≤ 2000000) :
    Calls Tryz.prog 71 #[.slice a l.length cap] w fun e w' => e = .returned (.bool (formB l)) ∧ Below w.heap.size w w' := by
  have hmm := @run_makeMap Tryz.prog
  have HUse := hid (fun (j : Nat) (hj : j < l.length) (s : ByteArray) (hs : s ∈ l[j].uses) => use_at hA (apart_of hN) hj hs)
  have HD := hid hD
  clear hD hA hN
  go_enter Tryz.func71, Tryz.ntmps71
  go_wp2_with fail
  go_loopw [12] (fun i wr => ∃ j : Nat, j ≤ l.length ∧ i = .int .i64 j ∧ (l.take j).all (oneU l) = true ∧ LmAt wr w.heap.size j (locL (namesU (l.take j))) ∧ Below w.heap.size w wr) (fun i _ => l.length - (intOf i).toNat)
  case atStart => exact ⟨0, Nat.zero_le _, rfl, rfl, LmAt.made _, al1 _ _⟩
  case round =>
    obtain ⟨j, hj, rfl, hall, hm, hb⟩ := hrel
    have HM := hid hm
    have HB := hid hb
    have HL := hid hall
    have hzm := hm.lt
    clear hall hm hb
    by_cases hlt : j < l.length
    · obtain ⟨b, off, a1, k1, a2, k2, a3, k3, ha, hx⟩ := HD.out.un j hlt
      have hx' := hx
      obtain ⟨hbl0, _⟩ := hx'
      have hxr : UnAt wr Tt b (off + j * 5) l[j] a1 k1 a2 k2 a3 k3 := by
        obtain ⟨hbl, c0, c1, c2, c3, c4, h1, h2, h3, h5, h6⟩ := hx
        exact ⟨Nat.lt_of_lt_of_le hbl HB.out.size, (HB.out.cell (p := ⟨b, _, none⟩) hbl).trans c0, (HB.out.cell (p := ⟨b, _, none⟩) hbl).trans c1, (HB.out.cell (p := ⟨b, _, none⟩) hbl).trans c2, (HB.out.cell (p := ⟨b, _, none⟩) hbl).trans c3, (HB.out.cell (p := ⟨b, _, none⟩) hbl).trans c4, h1.later HB.out, h2.later HB.out, h3.later HB.out, h5, h6⟩
      have HUv := hid hx.uv
      have husm := hS l[j] (List.getElem_mem hlt)
      have HN := hid (namesU_take l j hlt)
      have HUs := hid (HUse.out j hlt)
      have HF := hid (all_not l (oneU l) j hlt)
      have HT := hid (all_snoc l (oneU l) j hlt)
      have HDat : Hid (∀ i (hi : i < l.length), i < j → 0 ≤ l[i].data ∧ l[i].data ≤ 512) := fun i hi h => oneU_data (List.all_eq_true.1 HL.out l[i] (by rw [List.mem_take_iff_getElem]; exact ⟨i, by omega, rfl⟩))
      have HOne : Hid (oneU l l[j] = holdB l[j] (numU (usesU l l[j])) (prtU (usesU l l[j]))) := rfl
      have HUl : Hid (usesU l l[j] = l[j].uses.map (findU l)) := rfl
      obtain ⟨hbl, c0, c1, c2, c3, c4, _, _, _, hnm, _⟩ := hxr
      have HLoc := hid (locL_snoc (namesU (l.take j)) l[j].name)
      have HLen : Hid ((namesU (l.take j)).length = j) := by show _ = _; unfold namesU; rw [List.length_map, List.length_take]; omega
      generalize namesU (l.take j) = ns at *
      generalize l[j] = x at *
      subst ha
      obtain ⟨W1, hW1⟩ : ∃ W1, W1 = wr.alloc (.cells #[.string x.name, .slice a1 x.uses.length k1, .int .i64 x.data, .slice a2 x.parts.length k2, .slice a3 x.main.length k3] 42) := ⟨_, rfl⟩
      have HM1 : Hid (LmAt W1 w.heap.size j (locL ns)) := by rw [hW1]; exact HM.out.later (al1 _ _)
      have HX1 : Hid (W1.heap[wr.heap.size]? = some (.cells #[.string x.name, .slice a1 x.uses.length k1, .int .i64 x.data, .slice a2 x.parts.length k2, .slice a3 x.main.length k3] 42 (0, 0))) := by rw [hW1]; exact heap_newP _ _
      have HB1 : Hid (Below w.heap.size w W1) := by rw [hW1]; exact thenB HB.out (al1 _ _)
      obtain ⟨w2, hup, hm2, hg2⟩ := HM1.out.put (by unfold maxLen; omega) x.name hnm (j : Int) (by simp only [Lit.wf, Bool.and_eq_true, decide_eq_true_eq]; exact ⟨by show (-9223372036854775808 : Int) ≤ _; omega, by show _ ≤ (9223372036854775807 : Int); omega⟩)
      have HM2 : Hid (LmAt w2 w.heap.size (j + 1) (locL (namesU (l.take (j + 1))))) := by show LmAt _ _ _ _; rw [HN.out, HLoc.out, HLen.out]; exact hm2
      have HX2 := hid (heap_map_ne hg2 (by omega) HX1.out)
      have HB2 := hid (HB1.out.grown hg2 HB1.out.size (fun q hq => by cases hq; exact Nat.le_refl _))
      obtain ⟨f0, f1, f2, f3, f4, _⟩ := cellsOf5 HX1.out
      have fz := lt_of_heap HX1.out
      clear hm2 hg2 HM1 HM
      go_wp2_with fail
      rw [← hW1]
      clear hW1
      rw [hup]
      obtain ⟨e0, e1, e2, e3, e4, _⟩ := cellsOf5 HX2.out
      have ez := lt_of_heap HX2.out
      clear f0 f1 f2 f3 f4 fz c0 c1 c2 c3 c4 hup HB1 HX1
      have hub := HUv.out.uses.bound
      go_wp2_with fail
      go_loopw [6, 24] (fun v i W => ∃ (k : Nat) (xs : List Value), k ≤ x.uses.length ∧ i = .int .i64 k ∧ W.ownsRow w2.heap.size 42 5 v k xs ∧ DVals w Tt (unsD ((x.uses.take k).map (findU l))) xs ∧ Below w2.heap.size w2 W) (fun _ i _ => x.uses.length - (intOf i).toNat)
      case atStart => exact ⟨0, [], Nat.zero_le _, rfl, World.ownsRow_nil _ _ _ _, .nil, Below.refl _ _⟩
      case round =>
        obtain ⟨k, xs, hk, rfl, ho, hxs, hb3⟩ := hrel
        have HO := hid ho
        have HXs := hid hxs
        have HB3 := hid hb3
        have HX3 := hid ((hb3.block _ (lt_of_heap HX2.out)).trans HX2.out)
        have HM3 := hid (HM2.out.later hb3)
        clear e0 e1 e2 e3 e4 ez
        obtain ⟨e0, e1, e2, e3, e4, _⟩ := cellsOf5 HX3.out
        have ez := lt_of_heap HX3.out
        clear ho hxs hb3
        by_cases hlt2 : k < x.uses.length
        · obtain ⟨b2, off2, rfl, hb2, d0, hsz⟩ := (HUv.out.uses.later (thenB HB2.out HB3.out)).str k hlt2
          obtain ⟨i, hi, hij, hloc, hfind⟩ := HUs.out x.uses[k] (List.getElem_mem hlt2)
          have hlk := HM3.out.look x.uses[k] hsz
          rw [hloc] at hlk
          have HFd := hid hfind
          have HTk : Hid ((x.uses.take (k + 1)).map (findU l) = (x.uses.take k).map (findU l) ++ [l[i]]) := by show _ = _; rw [List.take_succ_eq_append_getElem hlt2, List.map_append, List.map_singleton, hfind]
          obtain ⟨b5, off5, d1, m1, d2, m2, d3, m3, hbo, hy⟩ := HD.out.un i hi
          obtain ⟨rfl, rfl⟩ : b5 = b ∧ off5 = off := by
            injection hbo with hbo; injection hbo with h1 h2; exact ⟨h1.symm, h2.symm⟩
          have HVl := hid (un_vals hy)
          obtain ⟨hbl5, g0, g1, g2, g3, g4, _, _, _, _, _⟩ := hy
          have HBw := hid (thenB HB2.out HB3.out)
          have j0 := (HBw.out.cell (p := ⟨b5, _, none⟩) hbl5).trans g0
          have j1 := (HBw.out.cell (p := ⟨b5, _, none⟩) hbl5).trans g1
          have j2 := (HBw.out.cell (p := ⟨b5, _, none⟩) hbl5).trans g2
          have j3 := (HBw.out.cell (p := ⟨b5, _, none⟩) hbl5).trans g3
          have j4 := (HBw.out.cell (p := ⟨b5, _, none⟩) hbl5).trans g4
          have hbl6 := Nat.lt_of_lt_of_le hbl5 HBw.out.size
          have hil : (i : Int) < l.length := by omega
          clear g0 g1 g2 g3 g4 hfind hloc hbo
          generalize l[i] = y at *
          generalize x.uses[k] = su at *
          simp only [Option.getD_some] at hlk
          go_wp2_with (at_builtin; refine append_own rfl (.tmp 28) (.tmp 35) 199 rfl w2.heap.size 42 _ 5 96 Tryz.underlying199 Tryz.infoUnit rfl (by decide) _ _ k xs rfl HO.out #[.string y.name, .slice d1 y.uses.length m1, .int .i64 y.data, .slice d2 y.parts.length m2, .slice d3 y.main.length m3] _ rfl rfl rfl (DVals.one HVl.out) (by omega) (by decide) HB3.out.size ?_; intro g5 c5 w5 ho5 hb5 hz5; have HO5 := hid ho5; have HB5 := hid hb5; clear ho5 hb5)
          go_roundw
          case rel => exact ⟨k + 1, _, by omega, by go_num, HO5.out, by rw [HTk.out, unsD_snoc]; exact HXs.out.append HVl.out, HB3.out.trans HB5.out⟩
          case measure => simp [intOf]; omega
        · obtain rfl : k = x.uses.length := by omega
          have HXf : Hid (DVals w Tt (unsD (usesU l x)) xs) := by have := HXs.out; rw [List.take_length] at this; rw [HUl.out]; exact this
          have hul : (usesU l x).length = x.uses.length := by rw [HUl.out, List.length_map]
          obtain ⟨av, cv, rfl, hdv⟩ := dat_own (us := usesU l x) (by rw [hul]; exact HO.out) HXf.out (thenB HB2.out HB3.out) (by rw [hul]; omega)
          rw [hul] at hdv
          have HDv := hid hdv
          clear hdv HO HXs
          have hbu : ∀ u ∈ usesU l x, 0 ≤ u.data ∧ u.data ≤ 512 := by
            intro u hu
            rw [HUl.out] at hu
            obtain ⟨s, hs, rfl⟩ := List.mem_map.1 hu
            obtain ⟨i, hi, hij, _, hf⟩ := HUs.out s hs
            rw [hf]
            exact HDat.out i hi hij
          have HCk := hid (fun (hh : headB x = true) (lc : Int) (W : World) (hW : Below wr.heap.size wr W) => ckK (ckOf x (numU (usesU l x)) (prtU (usesU l x)) lc) x.name a1 k1 a2 k2 a3 x.main.length k3 av x.uses.length cv W (headB_data hh).1 (headB_data hh).2 hub (HUv.out.later (thenB (thenB HB2.out HB3.out) hW)).parts (by have := known_uses (us := usesU l x) (cap := cv) (by rw [hul]; exact HDv.out.later hW) hbu x hul.symm lc; rw [hul] at this; exact this))
          have HHo := hid (Hold_any x (numU (usesU l x)) (prtU (usesU l x)) a1 k1 a2 k2 a3 k3 199 (.slice av x.uses.length cv) wr (HUv.out.later (thenB HB2.out HB3.out)) HCk.out)
          rw [← HOne.out] at HHo
          clear hbu HCk
          go_wp2_with fail
          refine HHo.out.mono ?_
          cases h1 : oneU l x with
          | false =>
            rintro e w6 ⟨rfl, hb6⟩
            have HB6 := hid (thenB (thenB HB2.out HB3.out) hb6)
            have HR : Hid (formB l = false) := HF.out h1
            clear hb6
            go_wp2_with fail
            go_ret
            exact ⟨ret_bool HR.out.symm, HB6.out⟩
          | true =>
            rintro e w6 ⟨rfl, hb6⟩
            have HB6 := hid (thenB (thenB HB2.out HB3.out) hb6)
            have HM6 := hid (HM3.out.later hb6)
            have HT' : Hid ((l.take (j + 1)).all (oneU l) = true) := by show _ = _; rw [HT.out, HL.out, h1]; rfl
            clear hb6
            go_wp2_with fail
            go_roundw
            case rel => exact ⟨j + 1, by omega, by go_num, HT'.out, HM6.out, HB6.out⟩
            case measure => simp [intOf]; omega
    · obtain rfl : j = l.length := by omega
      have HR : Hid (formB l = true) := all_end HL.out hlt
      go_wp2_with fail
      go_ret
      exact ⟨ret_bool HR.out.symm, HB.out⟩
end Go.Proofs.YtndkhgakfodldaaGreatDoor

namespace Go.Proofs.YtndkhgakfodldaaGreatDoor
open Go.RowKit Go.Maps Go.WideMaps
set_option linter.unusedSimpArgs false
set_option linter.unusedVariables false
set_option maxRecDepth 100000

def semE (l : List Un) : Int :=
  if l.length < 1 ∨ 4 < l.length then 2 else if aheadB l = false then 9 else if Fx.dupB (Fx.lists (namesU l)) = true then 6 else if (formB l && decide (sumD l ≤ 512)) = true then 0 else 1
set_option maxHeartbeats 1600000 in
theorem semCheck_any (l : List Un) (a : Option Addr) (cap : Nat) (w : World) (hD : DAt w Tt a l.length (unsD l)) (hS : ∀ u ∈ l, u.uses.length ≤ 2000000) :
    Calls Tryz.prog 24 #[.slice a l.length cap] w fun e w' => e = .returned (.int .i64 (semE l)) ∧ Below w.heap.size w w' := by
  have hbd := hD.bound
  have HS := hid hS
  have HD := hid hD
  clear hD hS
  by_cases t0 : l.length < 1
  · have HR : Hid (semE l = 2) := if_pos (Or.inl t0)
    go_enter Tryz.func24, Tryz.ntmps24
    go_wp2_with fail
    go_ret
    exact ⟨ret_int HR.out.symm, Below.refl _ _⟩
  have t0' : 1 ≤ l.length := by omega
  by_cases t4 : 4 < l.length
  · have HR : Hid (semE l = 2) := if_pos (Or.inr t4)
    clear t0
    go_enter Tryz.func24, Tryz.ntmps24
    go_wp2_with fail
    go_ret
    exact ⟨ret_int HR.out.symm, Below.refl _ _⟩
  have t4' : l.length ≤ 4 := by omega
  have HR0 : Hid (semE l = if aheadB l = false then 9 else if Fx.dupB (Fx.lists (namesU l)) = true then 6 else if (formB l && decide (sumD l ≤ 512)) = true then 0 else 1) := if_neg (by omega)
  clear t0 t4
  have HC := hid (usesAreAhead_any l a cap w HD.out t4')
  cases hA : aheadB l with
  | false =>
    rw [hA] at HC
    have HR : Hid (semE l = 9) := HR0.out.trans (if_pos hA)
    go_enter Tryz.func24, Tryz.ntmps24
    go_wp2_with fail
    refine HC.out.mono ?_
    rintro e w1 ⟨rfl, hb1⟩
    have HB1 := hid hb1
    clear hb1
    go_wp2_with fail
    go_ret
    exact ⟨ret_int HR.out.symm, HB1.out⟩
  | true =>
    rw [hA] at HC
    have HR1 : Hid (semE l = if Fx.dupB (Fx.lists (namesU l)) = true then 6 else if (formB l && decide (sumD l ≤ 512)) = true then 0 else 1) := HR0.out.trans (if_neg (by rw [hA]; decide))
    have HA := hid hA
    clear HR0 hA
    go_enter Tryz.func24, Tryz.ntmps24
    go_wp2_with fail
    refine HC.out.mono ?_
    rintro e w1 ⟨rfl, hb1⟩
    have HB1 := hid hb1
    have HC2 := hid (hasNameTwice_any l a cap w1 (HD.out.later hb1) t4')
    clear hb1
    go_wp2_with fail
    refine HC2.out.mono ?_
    cases hN : Fx.dupB (Fx.lists (namesU l)) with
    | true =>
      rintro e w2 ⟨rfl, hb2⟩
      have HB2 := hid (thenB HB1.out hb2)
      have HR : Hid (semE l = 6) := HR1.out.trans (if_pos hN)
      clear hb2
      go_wp2_with fail
      go_ret
      exact ⟨ret_int HR.out.symm, HB2.out⟩
    | false =>
      rintro e w2 ⟨rfl, hb2⟩
      have HB2 := hid (thenB HB1.out hb2)
      have HR2 : Hid (semE l = if (formB l && decide (sumD l ≤ 512)) = true then 0 else 1) := HR1.out.trans (if_neg (by rw [hN]; decide))
      have HC3 := hid (formHolds_any l a cap w2 (HD.out.later HB2.out) t4' HA.out hN HS.out)
      clear hb2 hN
      go_wp2_with fail
      refine HC3.out.mono ?_
      cases hF : formB l with
      | false =>
        rintro e w3 ⟨rfl, hb3⟩
        have HB3 := hid (thenB HB2.out hb3)
        have HR : Hid (semE l = 1) := HR2.out.trans (if_neg (by rw [hF]; simp))
        clear hb3
        go_wp2_with fail
        go_ret
        exact ⟨ret_int HR.out.symm, HB3.out⟩
      | true =>
        rintro e w3 ⟨rfl, hb3⟩
        have HB3 := hid (thenB HB2.out hb3)
        have HC4 := hid (dataHolds_any l a cap w3 (HD.out.later HB3.out) t4' (fun u hu => oneU_data (List.all_eq_true.1 hF u hu)))
        have HR3 : Hid (semE l = if decide (sumD l ≤ 512) = true then 0 else 1) := by show _ = _; rw [HR2.out, hF, Bool.true_and]
        clear hb3 hF
        go_wp2_with fail
        refine HC4.out.mono ?_
        cases hQ : decide (sumD l ≤ 512) with
        | false =>
          rintro e w4 ⟨rfl, hb4⟩
          have HB4 := hid (thenB HB3.out hb4)
          have HR : Hid (semE l = 1) := HR3.out.trans (if_neg (by rw [hQ]; decide))
          clear hb4 hQ
          go_wp2_with fail
          go_ret
          exact ⟨ret_int HR.out.symm, HB4.out⟩
        | true =>
          rintro e w4 ⟨rfl, hb4⟩
          have HB4 := hid (thenB HB3.out hb4)
          have HR : Hid (semE l = 0) := HR3.out.trans (if_pos hQ)
          clear hb4 hQ
          go_wp2_with fail
          go_ret
          exact ⟨ret_int HR.out.symm, HB4.out⟩
end Go.Proofs.YtndkhgakfodldaaGreatDoor

namespace Go.Proofs.YtndkhgakfodldaaGreatDoor
open Go.RowKit Go.Maps Go.WideMaps
set_option linter.unusedSimpArgs false

def Pr.own (p : Pr) : List ByteArray := p.params ++ p.locals
def partM (K : Kn) (p : Pr) : Except Int Pt := if Fx.dupB (Fx.lists p.own) then .error 6 else bindE (rsSs K (locL p.own) p.body) fun b => .ok ⟨p.params.length, p.locals.length, b⟩
def partEnd (lo : Nat) (r : Except Int Pt) (e : Ending) (w : World) : Prop :=
  match r with
  | .error c => ∃ x y a k cp, e = .returned (.tuple #[.agg #[.int .i64 x, .int .i64 y, .slice a k cp], .int .i64 c]) ∧ c ≠ 0
  | .ok t => ∃ a cp, e = .returned (.tuple #[.agg #[.int .i64 t.params, .int .i64 t.locals, .slice a t.body.length cp], .int .i64 0]) ∧ EAt w (lo ≤ ·) a t.body.length (acsD t.body)
theorem isTwice_strV {w : World} {B n : Nat} {v : Value} {l : List ByteArray} (hn : n = l.length) (h : w.ownsRow B 9 1 v n (strV l)) (hl : l.length ≤ 1000000) (hf : ∀ s ∈ l, s.size ≤ maxLen) :
    Calls Tryz.prog 59 #[v] w fun e w' => e = .returned (.bool (Fx.dupB (Fx.lists l))) ∧ Below w.heap.size w w' := by
  subst hn
  obtain ⟨a, c, rfl, hS⟩ := strV_own h
  exact Fx.isTwice_any a c _ w hS hl hf
theorem cell_new (W : World) (cs : Array Value) (t : TypeId) (n i : Nat) (v : Value) (hn : n = W.heap.size) (hv : cs[i]? = some v) : (W.alloc (.cells cs t)).cell? ⟨n, i, none⟩ = some v := by
  subst hn; rw [Lib.cell_of_heap (heap_newP _ _)]; exact hv
theorem bset3 {B b : Nat} {a w : World} (h : Below B a w) (hb : B ≤ b) (v0 v1 v2 : Value) : Below B a (((w.setCell ⟨b, 0, none⟩ v0).setCell ⟨b, 1, none⟩ v1).setCell ⟨b, 2, none⟩ v2) :=
  ((h.setCell (p := ⟨b, 0, none⟩) hb _).setCell (p := ⟨b, 1, none⟩) hb _).setCell (p := ⟨b, 2, none⟩) hb _
theorem Moves.set3 {w w1 : World} {A A' : Nat → Prop} {b : Nat} (h : Moves w A w1 A') (hp : ∀ k, k < w.heap.size → A k → k ≠ b) (v0 v1 v2 : Value) : Moves w A (((w1.setCell ⟨b, 0, none⟩ v0).setCell ⟨b, 1, none⟩ v1).setCell ⟨b, 2, none⟩ v2) A' :=
  ((h.set (p := ⟨b, 0, none⟩) hp v0).set (p := ⟨b, 1, none⟩) hp v1).set (p := ⟨b, 2, none⟩) hp v2
theorem cellsOf3 {w : World} {b : Nat} {x0 x1 x2 : Value} {t : TypeId} (h : w.heap[b]? = some (.cells #[x0, x1, x2] t (0, 0))) :
    w.cell? ⟨b, 0, none⟩ = some x0 ∧ w.cell? ⟨b, 1, none⟩ = some x1 ∧ w.cell? ⟨b, 2, none⟩ = some x2 ∧ ∀ i, w.frozen? ⟨b, i, none⟩ = false := by
  refine ⟨?_, ?_, ?_, fun i => Lib.frozen_of_heap h i⟩ <;> (rw [Lib.cell_of_heap h]; rfl)
theorem Keeps.below {R B : Nat} {w0 w w' : World} (h : Below B w0 w) (hk : Keeps R w w') (hR : B ≤ R) (hB : B ≤ w.heap.size) : Below B w0 w' :=
  h.trans ⟨hk.os, hk.tape, hk.output, hk.size, fun k h1 => hk.block k (by omega) (by omega)⟩
set_option maxRecDepth 100000 in
set_option maxHeartbeats 8000000 in
theorem part_any (K : Kn) (kb : Nat) (p : Pr) (q1 : Option Addr) (d1 : Nat) (q2 : Option Addr) (d2 : Nat) (q3 : Option Addr) (d3 : Nat) (w : World) (hK : KnAt w (.map (some kb)) K) (h1 : DAt w Tt q1 p.params.length (strsD p.params)) (h2 : DAt w Tt q2 p.locals.length (strsD p.locals)) (h3 : DAt w Tt q3 p.body.length (stsD p.body)) (hp3 : p.params.length ≤ 3) (hl4 : p.locals.length ≤ 4) (hmany : stMany 6 p.body = false) :
    Calls Tryz.prog 120 #[.agg #[.map (some kb)], .agg #[.string p.name, .bool p.pub, .slice q1 p.params.length d1, .slice q2 p.locals.length d2, .slice q3 p.body.length d3]] w fun e w' => partEnd w.heap.size (partM K p) e w' ∧ Below w.heap.size w w' := by
  have HK := hid hK
  have HD3 := hid h3
  have HAc := hid (acts_any 6 p.body hmany)
  have hs : ∀ s ∈ p.own, s.size ≤ maxLen := fun s hs => (List.mem_append.1 hs).elim ((strs_at h1).2 s) ((strs_at h2).2 s)
  have hol : p.own.length = p.params.length + p.locals.length := by unfold Pr.own; rw [List.length_append]
  have HS := hid hs
  have HOl := hid hol
  have hB4 : Below w.heap.size w ((((w.alloc (.cells #[.map (some kb)] 189)).alloc (.cells #[.string p.name, .bool p.pub, .slice q1 p.params.length d1, .slice q2 p.locals.length d2, .slice q3 p.body.length d3] 118)).alloc (.cells #[.int .i64 0, .int .i64 0, .slice none 0 0] 106)).alloc (.cells #[.slice q1 p.params.length d1, .slice q2 p.locals.length d2] 22)) := thenB (bl3 w _ _ _) (al1 _ _)
  have HC := hid (concat_any p.params p.locals q1 d1 q2 d2 (w.heap.size + 3) ((((w.alloc (.cells #[.map (some kb)] 189)).alloc (.cells #[.string p.name, .bool p.pub, .slice q1 p.params.length d1, .slice q2 p.locals.length d2, .slice q3 p.body.length d3] 118)).alloc (.cells #[.int .i64 0, .int .i64 0, .slice none 0 0] 106)).alloc (.cells #[.slice q1 p.params.length d1, .slice q2 p.locals.length d2] 22)) (by simp) (cell_new _ _ _ _ 0 _ (by simp) rfl) (cell_new _ _ _ _ 1 _ (by simp) rfl) ((strs_at h1).1.later hB4) ((strs_at h2).1.later hB4) (by omega) (by omega))
  have HB4 := hid hB4
  clear hK h1 h2 h3 hmany hs hol hB4
  obtain ⟨r, hr⟩ : ∃ r, r = partM K p := ⟨_, rfl⟩
  rw [← hr]
  have HR := hid hr
  clear hr
  go_enter Tryz.func120, Tryz.ntmps120
  go_wp2_with fail
  refine HC.out.mono ?_
  rintro e w1 ⟨v1, rfl, ho1, hb1⟩
  have HB1 := hid (thenB HB4.out hb1)
  have hz1 := hb1.size
  simp at hz1
  obtain ⟨q0, qp, qr⟩ := kept3 (thenB (al1 _ _) hb1)
  have P0 := hid q0
  have P1 := hid qp
  have P2 := hid qr
  obtain ⟨x0, x1, x2, x3, x4, xf⟩ := cellsOf5 qp
  obtain ⟨r0, r1, r2, rf⟩ := cellsOf3 qr
  have k0 : w1.cell? ⟨w.heap.size, 0, none⟩ = some (.map (some kb)) := by rw [Lib.cell_of_heap q0]; rfl
  have HO1 : Hid (w1.ownsRow ((((w.alloc (.cells #[.map (some kb)] 189)).alloc (.cells #[.string p.name, .bool p.pub, .slice q1 p.params.length d1, .slice q2 p.locals.length d2, .slice q3 p.body.length d3] 118)).alloc (.cells #[.int .i64 0, .int .i64 0, .slice none 0 0] 106)).alloc (.cells #[.slice q1 p.params.length d1, .slice q2 p.locals.length d2] 22)).heap.size 9 1 v1 (p.params.length + p.locals.length) (strV p.own)) := ho1
  have HC2 := hid (isTwice_strV HOl.out.symm HO1.out (by rw [HOl.out]; omega) HS.out)
  clear hb1 HC ho1 q0 qp qr
  cases hd : Fx.dupB (Fx.lists p.own) with
  | true =>
    have HR2 : Hid (r = .error 6) := HR.out.trans (by unfold partM; rw [hd]; rfl)
    rw [hd] at HC2
    clear hd
    go_wp2_with fail
    refine HC2.out.mono ?_
    rintro e w2 ⟨rfl, hb2⟩
    have HB2 := hid (thenB HB1.out hb2)
    have q2' := (hb2.block _ (lt_of_heap P2.out)).trans P2.out
    have hlt2 := lt_of_heap q2'
    clear r0 r1 r2 rf
    obtain ⟨r0, r1, r2, rf⟩ := cellsOf3 q2'
    clear hb2 q2'
    go_wp2_with fail
    refine bodyPost_ret (v := .tuple #[.agg #[.int .i64 0, .int .i64 0, .slice none 0 0], .int .i64 6]) (by simp [results, Tryz.results120, go_sem, r0, r1, r2, hlt2]) rfl ⟨by rw [HR2.out]; exact ⟨0, 0, none, 0, 0, rfl, by decide⟩, ?_⟩
    exact bset3 HB2.out (by omega) _ _ _
  | false =>
    have HR2 : Hid (r = bindE (rsSs K (locL p.own) p.body) fun b => .ok ⟨p.params.length, p.locals.length, b⟩) := HR.out.trans (by unfold partM; rw [hd]; rfl)
    rw [hd] at HC2
    clear hd HR
    go_wp2_with fail
    refine HC2.out.mono ?_
    rintro e w2 ⟨rfl, hb2⟩
    have HB2 := hid (thenB HB1.out hb2)
    have hz2 := hb2.size
    have P0' := hid ((hb2.block _ (lt_of_heap P0.out)).trans P0.out)
    have P1' := hid ((hb2.block _ (lt_of_heap P1.out)).trans P1.out)
    have P2' := hid ((hb2.block _ (lt_of_heap P2.out)).trans P2.out)
    have HO2 := hid (Fx.ownsRow_later HO1.out hb2)
    clear x0 x1 x2 x3 x4 xf r0 r1 r2 rf k0 HO1 HC2 P0 P1 P2
    have k0 : w2.cell? ⟨w.heap.size, 0, none⟩ = some (.map (some kb)) := by rw [Lib.cell_of_heap P0'.out]; rfl
    have hl0 := lt_of_heap P0'.out
    have hl1 := lt_of_heap P1'.out
    have hl2 := lt_of_heap P2'.out
    obtain ⟨av, cv, rfl, hSt⟩ := strV_own (l := p.own) (by rw [HOl.out]; exact HO2.out)
    have HSt := hid hSt
    have hmm := @run_makeMap Tryz.prog
    have HLm0 := hid ((LmAt.made w2).later (al1 _ (.cells #[.map (some kb), .map (some w2.heap.size)] 195)))
    clear hb2 hSt HO2
    rw [HOl.out]
    go_wp2_with fail
    go_loopw [8, 9, 26] (fun _ _ i wr => ∃ j : Nat, j ≤ p.params.length + p.locals.length ∧ i = .int .i64 j ∧ LmAt wr w2.heap.size j (locL (p.own.take j)) ∧ Keeps w2.heap.size ((w2.alloc (.map #[] 0)).alloc (.cells #[.map (some kb), .map (some w2.heap.size)] 195)) wr) (fun _ _ i _ => p.params.length + p.locals.length - (intOf i).toNat)
    case atStart => exact ⟨0, Nat.zero_le _, rfl, HLm0.out, Keeps.refl _ _⟩
    case round =>
      clear HLm0 hmm k0
      obtain ⟨j, hj, rfl, hlm, hke⟩ := hrel
      have HLm := hid hlm
      have HE := hid hke
      have hzr := hke.size
      simp at hzr
      have b0 : wr.heap[w2.heap.size + 1]? = some (.cells #[.map (some kb), .map (some w2.heap.size)] 195) := (hke.block _ (by simp) (by omega)).trans (by simpa using heap_newP (w2.alloc (.map #[] 0)) (.cells #[.map (some kb), .map (some w2.heap.size)] 195))
      have HQb := hid b0
      obtain ⟨y0, y1, yf⟩ := cellsOf2 b0
      have hyl := lt_of_heap b0
      clear hlm hke b0
      by_cases hlt0 : j < p.params.length + p.locals.length
      · have hlt : j < p.own.length := by rw [HOl.out]; exact hlt0
        obtain ⟨b, off, rfl, hbl, c0⟩ := HSt.out.place hlt
        have d0 := (HE.out.cell (off := off + j) (by simp; omega) (by omega)).trans (((bl2 w2 (.map #[] 0) (.cells #[.map (some kb), .map (some w2.heap.size)] 195)).cell (p := ⟨b, off + j, none⟩) hbl).trans c0)
        have hblr : b < wr.heap.size := by omega
        have hnm := HS.out p.own[j] (List.getElem_mem _)
        have HSn : Hid (updL (locL (p.own.take j)) p.own[j] j = locL (p.own.take (j + 1))) := by
          show _ = locL (p.own.take (j + 1))
          rw [List.take_succ_eq_append_getElem hlt, locL_snoc, List.length_take, Nat.min_eq_left (by omega)]
        generalize p.own[j] = s at *
        have hjj : j ≤ 1000 := by have := HOl.out; omega
        obtain ⟨w5, hrun, hL5, hg5⟩ := HLm.out.put (by unfold maxLen; omega) s hnm j (WalkArith.wf_i64 (by omega))
        rw [HSn.out] at hL5
        have HL5 := hid hL5
        have HE5 := hid (HE.out.grown hg5)
        clear hL5 hg5 c0 hnm
        go_wp2_with fail
        go_roundw
        case rel => exact ⟨j + 1, by omega, by go_num, HL5.out, HE5.out⟩
        case measure => simp [intOf]; omega
      · obtain rfl : j = p.params.length + p.locals.length := by omega
        have HLf : Hid (LmAt wr w2.heap.size (p.params.length + p.locals.length) (locL p.own)) := by have := HLm.out; rw [List.take_of_length_le (by rw [HOl.out]; exact Nat.le_refl _)] at this; exact this
        have HBr : Hid (Below w.heap.size w wr) := Keeps.below (thenB HB2.out (bl2 _ _ _)) HE.out (by have := HB2.out.size; omega) (by have := HB2.out.size; simp; omega)
        have HKr := hid (HK.out.later HBr.out)
        have HC5 := hid (HAc.out K (locL p.own) (.map (some kb)) (.map (some w2.heap.size)) Tt q3 d3 wr HKr.out HLf.out.names (HD3.out.later HBr.out))
        have e1 : wr.heap[w.heap.size + 1]? = some (.cells #[.string p.name, .bool p.pub, .slice q1 p.params.length d1, .slice q2 p.locals.length d2, .slice q3 p.body.length d3] 118) := (HE.out.block _ (by simp; omega) (by omega)).trans (heap_old (heap_old P1'.out))
        have e2 : wr.heap[w.heap.size + 2]? = some (.cells #[.int .i64 0, .int .i64 0, .slice none 0 0] 106) := (HE.out.block _ (by simp; omega) (by omega)).trans (heap_old (heap_old P2'.out))
        have HE1 := hid e1
        have HE2 := hid e2
        obtain ⟨x0, x1, x2, x3, x4, xf⟩ := cellsOf5 e1
        have hle1 := lt_of_heap e1
        have hle2 := lt_of_heap e2
        clear e1 e2
        go_wp2_with fail
        refine HC5.out.mono ?_
        rintro e w6 ⟨hend, hb6⟩
        have HB6 := hid (thenB HBr.out hb6)
        have hz6 := hb6.size
        have f1 := (hb6.block _ hle1).trans HE1.out
        have f2 := (hb6.block _ hle2).trans HE2.out
        have hlf1 := lt_of_heap f1
        have hlf2 := lt_of_heap f2
        clear x0 x1 x2 x3 x4 xf y0 y1 yf
        obtain ⟨x0, x1, x2, x3, x4, xf⟩ := cellsOf5 f1
        obtain ⟨r0, r1, r2, rf⟩ := cellsOf3 f2
        clear hb6 f1 f2
        cases hr : rsSs K (locL p.own) p.body with
        | error c =>
          rw [hr] at hend
          obtain ⟨rfl, hne⟩ := hend
          have HR3 : Hid (r = .error c) := HR2.out.trans (by rw [hr]; rfl)
          clear hr
          go_wp2_with fail
          refine bodyPost_ret (v := .tuple #[.agg #[.int .i64 p.params.length, .int .i64 p.locals.length, .slice none 0 0], .int .i64 c]) (by simp [results, Tryz.results120, go_sem, r0, r1, r2, hlf2]) rfl ⟨by rw [HR3.out]; exact ⟨_, _, _, _, _, rfl, hne⟩, ?_⟩
          exact bset3 HB6.out (by omega) _ _ _
        | ok bd =>
          rw [hr] at hend
          obtain ⟨ab, cb, rfl, heb⟩ := hend
          have HR3 : Hid (r = .ok ⟨p.params.length, p.locals.length, bd⟩) := HR2.out.trans (by rw [hr]; rfl)
          have HEb := hid heb
          clear hr heb
          go_wp2_with fail
          refine bodyPost_ret (v := .tuple #[.agg #[.int .i64 p.params.length, .int .i64 p.locals.length, .slice ab bd.length cb], .int .i64 0]) (by simp [results, Tryz.results120, go_sem, r0, r1, r2, hlf2]) rfl ⟨by rw [HR3.out]; exact ⟨ab, cb, rfl, (HEb.out.moves ((Moves.refl w6 _).set3 (by intro k _ hk; have : wr.heap.size ≤ k := hk; omega) _ _ _)).moves ⟨Nat.le_refl _, fun b _ h => ⟨by have : wr.heap.size ≤ b := h; show w.heap.size ≤ b; omega, rfl⟩⟩⟩, bset3 HB6.out (by omega) _ _ _⟩
end Go.Proofs.YtndkhgakfodldaaGreatDoor
