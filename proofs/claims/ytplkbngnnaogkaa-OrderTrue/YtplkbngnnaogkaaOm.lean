/-
  The order of modules: the law without the document's answer, walked.
-/
import Derived.Test.YtplkbngnnaogkaaOn
namespace Go.Proofs.Ytplkbngnnaogkaa
open Go.RowKit Go.Maps Go.Sort Go.WideMaps

theorem seenN_le (T l : List Nm) : Og.seenN T l ≤ T.length * l.length := by
  induction T with
  | nil => simp [Og.seenN]
  | cons x r ih =>
    simp only [Og.seenN, List.map_cons, List.sum_cons, List.length_cons] at ih ⊢
    have := List.count_le_length (a := x) (l := l)
    rw [Nat.succ_mul]
    omega
theorem DAt.raw {w : World} {b off n : Nat} {ds : List D} (h : DAt w Tt (some ⟨b, off, none⟩) n ds) (hn : 0 < n) : ∃ cs, CellsIn w b off cs ∧ DVals w Tt ds cs := by
  rcases h.2.2 with h0 | ⟨b1, off1, cs, e, _, _, hc, hd⟩
  · omega
  · injection e with e
    injection e with e1 e2
    subst e1
    subst e2
    exact ⟨cs, hc, hd⟩
theorem addP (b off j : Nat) : (⟨b, off, none⟩ : Addr).add j = ⟨b, off + j, none⟩ := by unfold Addr.add; split <;> simp_all
theorem mosD_len (L : List Mo) : (mosD L).length = L.length * 5 := by
  unfold mosD
  rw [List.length_flatMap]
  induction L with
  | nil => rfl
  | cons x r ih => rw [List.map_cons, List.sum_cons, ih, List.length_cons]; have : x.ds.length = 5 := rfl; omega
theorem Try.infoMod : (Try.prog.info? 39).map (fun i => (i.zero, i.size, i.bytes)) = some (some (.agg #[.string ⟨#[]⟩, .slice none 0 0, .slice none 0 0, .slice none 0 0, .slice none 0 0]), 5, 112) := by kernel_rfl
theorem cell_of {w : World} {b off r : Nat} {cs : List Value} {v : Value} (h : CellsIn w b off cs) (hr : r < cs.length) (hv : w.cell? ⟨b, off + r, none⟩ = some v) : cs[r]? = some v := by
  have h1 := h r cs[r] (List.getElem?_eq_getElem hr)
  rw [hv] at h1
  rw [List.getElem?_eq_getElem hr]
  exact h1.symm
theorem row_frozen {w : World} {base g n cap : Nat} {e : TypeId} {size : Nat} {xs : List Value} (h : w.ownsRow base e size (.slice (some ⟨g, 0, none⟩) n cap) n xs) (o : Nat) : w.frozen? ⟨g, o, none⟩ = false := by
  rcases h.2 with ⟨h1, _⟩ | ⟨g', cap', cur, h1, _, hg, _⟩
  · cases h1
  · injection h1 with h1
    injection h1 with h1
    injection h1 with h1
    subst h1
    unfold World.frozen?
    simp only
    rw [hg]
    simp
theorem own0 {b k : Nat} (h : (Value.slice (some ⟨b, 0, none⟩) 0 0).ownBlock = some k) : b ≤ k := by
  have h' : some b = some k := h
  injection h' with h'
  exact Nat.le_of_eq h'
theorem blk_drew {w : World} {b : Nat} {cs : List Value} (h : Blk w b cs) : Blk w.drew b cs := ⟨h.lt, h.cell⟩
theorem empty_row (w : World) : (w.alloc (.cells #[] 39)).ownsRow w.heap.size 39 5 (.slice (some ⟨w.heap.size, 0, none⟩) 0 0) 0 [] :=
  ⟨rfl, Or.inr ⟨w.heap.size, 0, #[], rfl, Nat.le_refl _, heap_new w _, Nat.le_refl _, Nat.zero_le _, by simp, by simp⟩⟩
set_option maxRecDepth 100000 in
set_option maxHeartbeats 3200000 in
theorem OrderTrue_any (L : List Mo) (a : Option Addr) (cap : Nat) (n k : Int) (w : World) (hD : DAt w Tt a L.length (mosD L)) (hn0 : -9223372036854775808 ≤ n) (hn1 : n ≤ 9223372036854775807) (hk0 : -9223372036854775808 ≤ k) (hk1 : k ≤ 9223372036854775807) :
    Calls Try.prog 4 #[.slice a L.length cap, .int .i64 n, .int .i64 k] w fun e w' => e = .returned (.bool true) ∧ Below w.heap.size w w' := by
  have hbd := hD.bound
  have HD := hid hD
  clear hD
  go_enter Try.func4, Try.ntmps4
  go_wp2_with fail
  refine (Sort_any L a cap _ HD.out).mono ?_
  rintro e w1 ⟨hs, hb1⟩
  rcases hs with ⟨he, rfl⟩ | ⟨_, _, rfl⟩ | ⟨S, v, he, hS, rfl, hv⟩
  · have hne : (ordE L == 0) = false := by simpa using he
    go_wp2_with fail
    refine (orderBegun_any _).mono ?_
    rintro e w2 ⟨rfl, hb2⟩
    go_wp2_with fail
    go_ret
    exact ⟨rfl, thenB hb1 hb2⟩
  · go_wp2_with fail
    refine (orderBegun_any _).mono ?_
    rintro e w2 ⟨rfl, hb2⟩
    go_wp2_with fail
    go_ret
    exact ⟨rfl, thenB hb1 hb2⟩
  obtain ⟨h4, _, hnd, hu⟩ := ordE_zero he
  have HSo := hid (sort_of hS)
  have HSe := hid hS
  have HE := hid he
  have HV := hid hv
  obtain ⟨va, vc, rfl, hvx⟩ := hv
  clear hvx hS he
  rw [show (S.map (ixL L)).length = L.length from by rw [List.length_map]; exact HSo.out.len] at *
  by_cases h0 : L.length = 0
  · have h0b : ((L.length : Int) == 0) = true := by rw [beq_iff_eq]; omega
    go_wp2_with fail
    refine (orderBegun_any _).mono ?_
    rintro e w2 ⟨rfl, hb2⟩
    go_wp2_with fail
    go_ret
    exact ⟨rfl, thenB hb1 hb2⟩
  have h0b : ((L.length : Int) == 0) = false := by rw [beq_eq_false_iff_ne]; omega
  go_wp2_with fail
  refine (choose_any n L.length _ hn0 hn1 (by omega) (by omega)).mono ?_
  rintro e w2 ⟨i, hi, rfl, h2⟩
  obtain rfl := h2.symm
  go_wp2_with fail
  refine (choose_any k L.length _ hk0 hk1 (by omega) (by omega)).mono ?_
  rintro e w2 ⟨j, hj, rfl, h2⟩
  obtain rfl := h2.symm
  obtain ⟨b', off, mv, a1, c1, a2, c2, a3, c3, a4, c4, rfl, hlb, hM, k0, k1, k2, k3, k4⟩ := HD.out.mo i hi
  have c0 := (hb1.cell (p := ⟨b', off + i * 5, none⟩) hlb).trans k0
  have hlb' : b' < w1.heap.size := Nat.lt_of_lt_of_le hlb hb1.size
  have HC := hid (Needs_any L (some ⟨b', off, none⟩) cap L[i].name _ (HD.out.later hb1) hM.wna)
  have hiL : (i : Int) < (L.length : Int) := by omega
  have hjL : (j : Int) < (L.length : Int) := by omega
  have HNi : Hid (L[i].name.data.toList ∈ nmL L) := List.mem_map.2 ⟨L[i], List.getElem_mem hi, rfl⟩
  clear hM k1 k2 k3 k4 k0
  go_wp2_with fail
  refine HC.out.mono ?_
  rintro e w3 ⟨hs, hb3⟩
  rcases hs with ⟨h, _⟩ | ⟨_, h, _⟩ | ⟨l, u, _, _, hN, rfl, hu⟩
  · exact (h HE.out).elim
  · exact (h HNi.out).elim
  have hl4 : l.length ≤ 4 := by have := len_le l (nmL L) hN.need.nodup hN.mem; rw [nmL_len] at this; omega
  have HN := hid hN
  have HU := hid hu
  have HV3 := hid (HV.out.later hb3)
  have hbb3 := thenB hb1 hb3
  obtain ⟨ua, uc, rfl, hux⟩ := hu
  clear hux hN HC c0 hlb' hb3 HV
  have hSl : S.length = L.length := HSo.out.len
  go_wp2_with fail
  /- seen -/
  go_loopw [14, 13] (fun x c wr => ∃ (p m : Nat), p ≤ S.length ∧ x = .int .i64 p ∧ c = .int .i64 ((Og.seenN (S.take p) l : Nat) : Int) ∧ Hid (∀ q (h : q < S.length), q < p → S[q] ≠ L[i].name.data.toList) ∧ wr = w3.drewN m) (fun x _ _ => S.length - (intOf x).toNat)
  case atStart => exact ⟨0, 0, Nat.zero_le _, rfl, rfl, (fun q h h0 => by omega), rfl⟩
  case round =>
    obtain ⟨p, m, hp, rfl, rfl, HP, hwr⟩ := hrel
    have HW := hid hwr
    have hbW : Below w3.heap.size w3 wr := by rw [hwr]; exact below_drewN (Below.refl _ _) m
    clear hwr
    have hpS : p < S.length := by
      rcases Nat.lt_or_ge p S.length with h | h
      · exact h
      · exfalso
        obtain ⟨q, hq, e⟩ := List.getElem_of_mem (HSo.out.all _ HNi.out)
        exact HP.out q hq (by omega) e
    obtain ⟨vb, rfl, hvl, hvc⟩ := (HV3.out.later hbW).at (j := p) (by simpa using hpS)
    have hSp : S[p] ∈ nmL L := HSo.out.mem _ (List.getElem_mem hpS)
    have hz := ix_lt hSp
    have hvc' : wr.cell? ⟨vb, p, none⟩ = some (.int .i64 (((nmL L).idxOf S[p] : Nat) : Int)) := by
      rw [hvc]; simp [ixL]
    clear hvc
    have hstr := str_ix hSp
    have hsb : Og.seenN (S.take p) l ≤ 16 := by
      refine Nat.le_trans (seenN_le _ _) ?_
      have h1 : (S.take p).length ≤ 4 := by rw [List.length_take]; omega
      exact Nat.mul_le_mul h1 hl4
    by_cases hpe : S[p] = L[i].name.data.toList
    · have hzi : (nmL L).idxOf S[p] = i := by
        have := ix_at hnd i hi
        rw [← hpe] at this
        unfold ixL at this
        omega
      have HSn : Hid (Og.seenN (S.take p) l = l.length) := by
        have := HN.out.need
        rw [← hpe] at this
        exact Og.NeedIs.seen HSo.out.topo HSo.out.nodup hpS this
      rw [hzi] at hvc'
      rw [HSn.out]
      have hpL : p < L.length := by omega
      clear hstr hsb
      obtain ⟨cs, hcs, hdv⟩ := HD.out.raw (by omega)
      obtain ⟨i0, hi0, hz0, hz1, hz2⟩ := info_parts Try.infoMod
      have hcl : cs.length = L.length * 5 := by rw [hdv.len, mosD_len]
      have hbw := thenB hbb3 hbW
      have HNw : Hid (∀ r u, cs[r]? = some u → (wr.alloc (.cells #[] 39)).cell? ((⟨b', off, none⟩ : Addr).add r) = some u) := fun r u hr => by
        have h1 := (hcs.moves (Moves.of_below (thenB hbw (al1 _ (.cells #[] 39))) Tt) trivial hlb) r u hr
        rw [addP]
        exact h1
      have HOne := hid hdv.one
      have HC := hid hcs
      have HDv := hid hdv
      clear hcs hdv
      go_wp2_with (at_builtin; refine wpList_append_lies _ rfl _ _ 22 rfl wr.heap.size 39 i0 _ 5 112 Try.underlying22 hi0 hz0 hz1 hz2 rfl (by decide) _ 0 [] rfl (empty_row wr) ⟨b', off, none⟩ L.length cap cs rfl hcl HNw.out HOne.out (by omega) (by unfold maxLen; omega) (by omega) (by simp) _ rfl ?_; intro g cg w5 hown5 hg5 hat5 hlt5)
      have hgb : wr.heap.size ≤ g := (hown5.lt g rfl).1
      have hb5 : Below wr.heap.size wr w5 := (al1 wr _).grown hg5 (by simp) (fun k hk => own0 hk)
      have HO5 := hid hown5
      have hfz : ∀ o, w5.frozen? ⟨g, o, none⟩ = false := row_frozen hown5
      have HX : Hid (∀ r v, r < L.length * 5 → w.cell? ⟨b', off + r, none⟩ = some v → w5.cell? ⟨g, r, none⟩ = some v) := fun r v hr hv => by
        have h1 := cell_of HC.out (by rw [hcl]; exact hr) hv
        have := HO5.out.cells (g := g) rfl r v h1
        rwa [add0] at this
      obtain ⟨C, hC⟩ := mo_cells HD.out
      have HM5 : Hid (MRow w5 g L.length C) := ⟨hlt5, fun k hk => (hC k hk).1, fun k hk r u hr => by
        have h5 := (hC k hk).1
        have hr5 : r < 5 := by
          rcases Nat.lt_or_ge r 5 with h | h
          · exact h
          · rw [List.getElem?_eq_none (by omega)] at hr; cases hr
        exact HX.out (k * 5 + r) u (by omega) ((hC k hk).2.2 r u hr), hfz⟩
      have HCd : Hid (∀ k (hk : k < L.length), DVals w Tt L[k].ds (C k)) := fun k hk => (hC k hk).2.1
      clear hown5 hg5 hat5 hC
      obtain ⟨_, _, mvi, a1, c1, a2, c2, a3, c3, a4, c4, ea, _, hMi, i0', i1, i2, i3, i4⟩ := HD.out.mo i hi
      injection ea with ea
      injection ea with ea1 ea2
      subst ea1
      subst ea2
      obtain ⟨_, _, mvj, d1, f1, d2, f2, d3, f3, d4, f4, ea, _, hMj, j0, j1, j2, j3, j4⟩ := HD.out.mo j hj
      injection ea with ea
      injection ea with ea1 ea2
      subst ea1
      subst ea2
      have x0 := HX.out (i * 5) _ (by omega) i0'
      have x1 := HX.out (i * 5 + 1) _ (by omega) i1
      have x2 := HX.out (i * 5 + 2) _ (by omega) i2
      have x3 := HX.out (i * 5 + 3) _ (by omega) i3
      have x4 := HX.out (i * 5 + 4) _ (by omega) i4
      have y0 := HX.out (j * 5) _ (by omega) j0
      have y1 := HX.out (j * 5 + 1) _ (by omega) j1
      have y2 := HX.out (j * 5 + 2) _ (by omega) j2
      have y3 := HX.out (j * 5 + 3) _ (by omega) j3
      have y4 := HX.out (j * 5 + 4) _ (by omega) j4
      have HMi := hid hMi
      have HMj := hid hMj
      clear i0' i1 i2 i3 i4 j0 j1 j2 j3 j4 hMi hMj
      go_region
      · generalize hp1 : w5.heap.size + 1 = p1
        generalize hp0 : w5.heap.size = p0
        have hb6 : Below w5.heap.size w5 (((w5.alloc (.cells #[.string L[i].name, .slice a1 L[i].uses.length c1, .slice a2 L[i].decls.length c2, .slice a3 L[i].procs.length c3, .slice a4 L[i].main.length c4] 39)).alloc (.cells #[.string L[j].name, .slice d1 L[j].uses.length f1, .slice d2 L[j].decls.length f2, .slice d3 L[j].procs.length f3, .slice d4 L[j].main.length f4] 39)).drew) := below_drewN (al2 _ _ _) 1
        have BA : Blk (((w5.alloc (.cells #[.string L[i].name, .slice a1 L[i].uses.length c1, .slice a2 L[i].decls.length c2, .slice a3 L[i].procs.length c3, .slice a4 L[i].main.length c4] 39)).alloc (.cells #[.string L[j].name, .slice d1 L[j].uses.length f1, .slice d2 L[j].decls.length f2, .slice d3 L[j].procs.length f3, .slice d4 L[j].main.length f4] 39)).drew) p0 [.string L[i].name, .slice a1 L[i].uses.length c1, .slice a2 L[i].decls.length c2, .slice a3 L[i].procs.length c3, .slice a4 L[i].main.length c4] := by
          rw [← hp0]; exact blk_drew (Blk.new1 w5 _ _ _)
        have BB : Blk (((w5.alloc (.cells #[.string L[i].name, .slice a1 L[i].uses.length c1, .slice a2 L[i].decls.length c2, .slice a3 L[i].procs.length c3, .slice a4 L[i].main.length c4] 39)).alloc (.cells #[.string L[j].name, .slice d1 L[j].uses.length f1, .slice d2 L[j].decls.length f2, .slice d3 L[j].procs.length f3, .slice d4 L[j].main.length f4] 39)).drew) p1 [.string L[j].name, .slice d1 L[j].uses.length f1, .slice d2 L[j].decls.length f2, .slice d3 L[j].procs.length f3, .slice d4 L[j].main.length f4] := by
          rw [← hp1]; exact blk_drew (Blk.new2 w5 _ _ _)
        generalize hw6 : ((w5.alloc (.cells #[.string L[i].name, .slice a1 L[i].uses.length c1, .slice a2 L[i].decls.length c2, .slice a3 L[i].procs.length c3, .slice a4 L[i].main.length c4] 39)).alloc (.cells #[.string L[j].name, .slice d1 L[j].uses.length f1, .slice d2 L[j].decls.length f2, .slice d3 L[j].procs.length f3, .slice d4 L[j].main.length f4] 39)).drew = w6 at BA BB hb6 ⊢
        have hpl : p0 < w6.heap.size := BA.lt
        have hql : p1 < w6.heap.size := BB.lt
        clear hw6
        have HM6 := hid (HM5.out.later hb6)
        have hgl6 : g < w6.heap.size := Nat.lt_of_lt_of_le hlt5 hb6.size
        have x0' := (hb6.cell (p := ⟨g, i * 5, none⟩) hlt5).trans x0
        have x1' := (hb6.cell (p := ⟨g, i * 5 + 1, none⟩) hlt5).trans x1
        have x2' := (hb6.cell (p := ⟨g, i * 5 + 2, none⟩) hlt5).trans x2
        have x3' := (hb6.cell (p := ⟨g, i * 5 + 3, none⟩) hlt5).trans x3
        have x4' := (hb6.cell (p := ⟨g, i * 5 + 4, none⟩) hlt5).trans x4
        obtain ⟨t0, t1, t2, t3, t4, _⟩ := BB.c5
        have hfz6 := HM6.out.fz
        have HBA := hid BA
        have hne1 : ¬ p0 = g := by omega
        have hne2 : ¬ p1 = g := by omega
        have hbr6 := thenB hb5 hb6
        clear x0 x1 x2 x3 x4 y0 y1 y2 y3 y4 hfz BA BB
        go_upto_region 22 with fail
        clear x0' x1' x2' x3' x4' t0 t1 t2 t3 t4 hfz6
        have HM7 := hid (HM6.out.put i hi (.string L[j].name) (.slice d1 L[j].uses.length f1) (.slice d2 L[j].decls.length f2) (.slice d3 L[j].procs.length f3) (.slice d4 L[j].main.length f4))
        have HBA7 : Hid (Blk (put5 w6 g (i * 5) (.string L[j].name) (.slice d1 L[j].uses.length f1) (.slice d2 L[j].decls.length f2) (.slice d3 L[j].procs.length f3) (.slice d4 L[j].main.length f4)) p0 [.string L[i].name, .slice a1 L[i].uses.length c1, .slice a2 L[i].decls.length c2, .slice a3 L[i].procs.length c3, .slice a4 L[i].main.length c4]) := put5_blk HBA.out hne1
        have hbr7 : Below wr.heap.size wr (put5 w6 g (i * 5) (.string L[j].name) (.slice d1 L[j].uses.length f1) (.slice d2 L[j].decls.length f2) (.slice d3 L[j].procs.length f3) (.slice d4 L[j].main.length f4)) := put5_below hbr6 hgb
        show Code.wp _ _ _ _ (put5 w6 g (i * 5) (.string L[j].name) (.slice d1 L[j].uses.length f1) (.slice d2 L[j].decls.length f2) (.slice d3 L[j].procs.length f3) (.slice d4 L[j].main.length f4))
        generalize put5 w6 g (i * 5) (.string L[j].name) (.slice d1 L[j].uses.length f1) (.slice d2 L[j].decls.length f2) (.slice d3 L[j].procs.length f3) (.slice d4 L[j].main.length f4) = w7 at HM7 HBA7 hbr7 ⊢
        have hgl7 := HM7.out.lt
        have hfz7 := HM7.out.fz
        obtain ⟨z0, hz0⟩ : ∃ u, w7.cell? ⟨g, j * 5, none⟩ = some u := HM7.out.some j hj 0 (by omega)
        obtain ⟨z1, hz1⟩ := HM7.out.some j hj 1 (by omega)
        obtain ⟨z2, hz2⟩ := HM7.out.some j hj 2 (by omega)
        obtain ⟨z3, hz3⟩ := HM7.out.some j hj 3 (by omega)
        obtain ⟨z4, hz4⟩ := HM7.out.some j hj 4 (by omega)
        obtain ⟨s0, s1, s2, s3, s4, hpl7⟩ := HBA7.out.c5
        clear HM6 HBA hpl hql hgl6 hbr6
        go_upto_region 23 with fail
        clear hz0 hz1 hz2 hz3 hz4 s0 s1 s2 s3 s4 hfz7
        have HM8 := hid (HM7.out.put j hj (.string L[i].name) (.slice a1 L[i].uses.length c1) (.slice a2 L[i].decls.length c2) (.slice a3 L[i].procs.length c3) (.slice a4 L[i].main.length c4))
        have hbr8 : Below wr.heap.size wr (put5 w7 g (j * 5) (.string L[i].name) (.slice a1 L[i].uses.length c1) (.slice a2 L[i].decls.length c2) (.slice a3 L[i].procs.length c3) (.slice a4 L[i].main.length c4)) := put5_below hbr7 hgb
        show Code.wp _ _ _ _ (put5 w7 g (j * 5) (.string L[i].name) (.slice a1 L[i].uses.length c1) (.slice a2 L[i].decls.length c2) (.slice a3 L[i].procs.length c3) (.slice a4 L[i].main.length c4))
        generalize put5 w7 g (j * 5) (.string L[i].name) (.slice a1 L[i].uses.length c1) (.slice a2 L[i].decls.length c2) (.slice a3 L[i].procs.length c3) (.slice a4 L[i].main.length c4) = w8 at HM8 hbr8 ⊢
        clear HM7 HBA7 hbr7 hpl7 hgl7
        have hbw8 := thenB hbw hbr8
        have HD8 : Hid (DAt w8 Tt (some ⟨g, 0, none⟩) (swapL L i j hi hj).length (mosD (swapL L i j hi hj))) := by
          have hM := HM8.out
          rw [← swap_len hi hj] at hM
          refine hM.dat (by rw [swap_len]; omega) (fun q hq => ?_)
          have hq' : q < L.length := by rw [swap_len] at hq; exact hq
          have hmv : Moves w Tt w8 Tt := Moves.of_below hbw8 Tt
          by_cases e1 : q = j
          · subst e1
            simp only [if_true, swapL, List.getElem_set_self]
            exact DVals.moves hmv _ _ (mo_vals HMi.out)
          · have e1' : ¬ j = q := fun h => e1 h.symm
            simp only [if_neg e1, swapL]
            rw [List.getElem_set_ne e1']
            by_cases e2 : q = i
            · subst e2
              simp only [if_true, List.getElem_set_self]
              exact DVals.moves hmv _ _ (mo_vals HMj.out)
            · have e2' : ¬ i = q := fun h => e2 h.symm
              simp only [if_neg e2]
              rw [List.getElem_set_ne e2']
              exact DVals.moves hmv _ _ (HCd.out q hq')
        have HSo8 := hid (Sort_any (swapL L i j hi hj) (some ⟨g, 0, none⟩) cg w8 HD8.out)
        rw [swap_len] at HSo8
        have HE8 : Hid (ordE (swapL L i j hi hj) = 0) := ordE_perm (swap_perm hi hj) HE.out
        have HS8 : Hid (sortL (swapL L i j hi hj) = some S) := (sortL_perm (swap_perm hi hj) hnd).trans HSe.out
        go_wp2_with fail
        refine HSo8.out.mono ?_
        rintro e w9 ⟨hs, hb9⟩
        rcases hs with ⟨h, _⟩ | ⟨_, h, _⟩ | ⟨S9, v9, _, hS9, rfl, hv9⟩
        · exact (h HE8.out).elim
        · rw [HS8.out] at h; cases h
        rw [HS8.out] at hS9
        obtain rfl : S = S9 := by injection hS9
        have HV9 := hid hv9
        obtain ⟨pa9, pc9, rfl, hx9⟩ := hv9
        rw [show (S.map (ixL (swapL L i j hi hj))).length = L.length from by rw [List.length_map]; exact hSl] at *
        have HD9 := hid (HD8.out.later hb9)
        have HV39 := hid ((HV3.out.later hbW).later (thenB hbr8 hb9))
        have hbw9 := thenB hbw8 hb9
        clear hx9 hS9 HSo8 HM8
        have HS9 : Hid (SortIs (swapL L i j hi hj) S) := sort_of HS8.out
        go_wp2_with fail
        go_loopw [21] (fun x wx => ∃ q m : Nat, q ≤ L.length ∧ x = .int .i64 q ∧ wx = w9.drewN m) (fun x _ => L.length - (intOf x).toNat)
        case atStart => exact ⟨0, 0, Nat.zero_le _, rfl, rfl⟩
        case round =>
          obtain ⟨q, m9, hq, rfl, hwx⟩ := hrel
          have HW9 := hid hwx
          have hb10 : Below w9.heap.size w9 wr := by rw [hwx]; exact below_drewN (Below.refl _ _) m9
          clear hwx
          by_cases hqt : q < L.length
          · have hqS : q < S.length := by omega
            obtain ⟨vb2, ev, hvl9, hvc9⟩ := (HV39.out.later hb10).at (j := q) (by simpa using hqS)
            injection ev with ev
            injection ev with ev
            subst ev
            obtain ⟨ob, rfl, hol, hoc⟩ := (HV9.out.later hb10).at (j := q) (by simpa using hqS)
            have hS1 : S[q] ∈ nmL L := HSo.out.mem _ (List.getElem_mem hqS)
            have hS2 : S[q] ∈ nmL (swapL L i j hi hj) := HS9.out.mem _ (List.getElem_mem hqS)
            have hz1 := ix_lt hS1
            have hz2 := ix_lt hS2
            have hvc9' : wr.cell? ⟨vb, q, none⟩ = some (.int .i64 (((nmL L).idxOf S[q] : Nat) : Int)) := by rw [hvc9]; simp [ixL]
            have hoc' : wr.cell? ⟨ob, q, none⟩ = some (.int .i64 (((nmL (swapL L i j hi hj)).idxOf S[q] : Nat) : Int)) := by rw [hoc]; simp [ixL]
            obtain ⟨_, _, _, _, _, _, _, _, _, _, _, ea, hlbl, _, n1, _, _, _, _⟩ := HD.out.mo _ hz1
            injection ea with ea
            injection ea with ea1 ea2
            subst ea1
            subst ea2
            obtain ⟨_, _, _, _, _, _, _, _, _, _, _, ea, hlbo, _, n2, _, _, _, _⟩ := (HD9.out.later hb10).mo _ hz2
            injection ea with ea
            injection ea with ea1 ea2
            subst ea1
            subst ea2
            have n1' := ((thenB hbw9 hb10).cell (p := ⟨b', off + (nmL L).idxOf S[q] * 5, none⟩) hlb).trans n1
            have hlb9 : b' < wr.heap.size := Nat.lt_of_lt_of_le hlb (thenB hbw9 hb10).size
            rw [← str_ix hS1] at n1'
            rw [← str_ix hS2, Nat.zero_add] at n2
            have hzz1 : (((nmL L).idxOf S[q] : Nat) : Int) < (L.length : Int) := by omega
            have hzz2 : (((nmL (swapL L i j hi hj)).idxOf S[q] : Nat) : Int) < (L.length : Int) := by rw [swap_len] at hz2; omega
            have hz3 : (nmL (swapL L i j hi hj)).idxOf S[q] < L.length := by rw [swap_len] at hz2; exact hz2
            generalize strOf S[q] = sq at *
            generalize (nmL (swapL L i j hi hj)).idxOf S[q] = y at hoc' n2 hzz2 hz3
            clear n1 hvc9 hoc
            go_wp2_with fail
            go_quiet ((fail))
            go_wp2_with fail
            go_roundw
            case rel => exact ⟨q + 1, m9 + nq, by omega, by go_num, by rw [HW9.out, World.drewN_drewN]⟩
            case measure => simp [intOf]; omega
          · go_wp2_with fail
            refine (orderBegun_any _).mono ?_
            rintro e w11 ⟨rfl, hb11⟩
            go_wp2_with fail
            go_ret
            exact ⟨rfl, thenB hbw9 (thenB hb10 hb11)⟩
      · generalize hp1 : w5.heap.size + 1 = p1
        generalize hp0 : w5.heap.size = p0
        have hb6 : Below w5.heap.size w5 (((w5.alloc (.cells #[.string L[j].name, .slice d1 L[j].uses.length f1, .slice d2 L[j].decls.length f2, .slice d3 L[j].procs.length f3, .slice d4 L[j].main.length f4] 39)).alloc (.cells #[.string L[i].name, .slice a1 L[i].uses.length c1, .slice a2 L[i].decls.length c2, .slice a3 L[i].procs.length c3, .slice a4 L[i].main.length c4] 39)).drew) := below_drewN (al2 _ _ _) 1
        have BA : Blk (((w5.alloc (.cells #[.string L[j].name, .slice d1 L[j].uses.length f1, .slice d2 L[j].decls.length f2, .slice d3 L[j].procs.length f3, .slice d4 L[j].main.length f4] 39)).alloc (.cells #[.string L[i].name, .slice a1 L[i].uses.length c1, .slice a2 L[i].decls.length c2, .slice a3 L[i].procs.length c3, .slice a4 L[i].main.length c4] 39)).drew) p1 [.string L[i].name, .slice a1 L[i].uses.length c1, .slice a2 L[i].decls.length c2, .slice a3 L[i].procs.length c3, .slice a4 L[i].main.length c4] := by
          rw [← hp1]; exact blk_drew (Blk.new2 w5 _ _ _)
        have BB : Blk (((w5.alloc (.cells #[.string L[j].name, .slice d1 L[j].uses.length f1, .slice d2 L[j].decls.length f2, .slice d3 L[j].procs.length f3, .slice d4 L[j].main.length f4] 39)).alloc (.cells #[.string L[i].name, .slice a1 L[i].uses.length c1, .slice a2 L[i].decls.length c2, .slice a3 L[i].procs.length c3, .slice a4 L[i].main.length c4] 39)).drew) p0 [.string L[j].name, .slice d1 L[j].uses.length f1, .slice d2 L[j].decls.length f2, .slice d3 L[j].procs.length f3, .slice d4 L[j].main.length f4] := by
          rw [← hp0]; exact blk_drew (Blk.new1 w5 _ _ _)
        generalize hw6 : ((w5.alloc (.cells #[.string L[j].name, .slice d1 L[j].uses.length f1, .slice d2 L[j].decls.length f2, .slice d3 L[j].procs.length f3, .slice d4 L[j].main.length f4] 39)).alloc (.cells #[.string L[i].name, .slice a1 L[i].uses.length c1, .slice a2 L[i].decls.length c2, .slice a3 L[i].procs.length c3, .slice a4 L[i].main.length c4] 39)).drew = w6 at BA BB hb6 ⊢
        have hpl : p1 < w6.heap.size := BA.lt
        have hql : p0 < w6.heap.size := BB.lt
        clear hw6
        have HM6 := hid (HM5.out.later hb6)
        have hgl6 : g < w6.heap.size := Nat.lt_of_lt_of_le hlt5 hb6.size
        have x0' := (hb6.cell (p := ⟨g, i * 5, none⟩) hlt5).trans x0
        have x1' := (hb6.cell (p := ⟨g, i * 5 + 1, none⟩) hlt5).trans x1
        have x2' := (hb6.cell (p := ⟨g, i * 5 + 2, none⟩) hlt5).trans x2
        have x3' := (hb6.cell (p := ⟨g, i * 5 + 3, none⟩) hlt5).trans x3
        have x4' := (hb6.cell (p := ⟨g, i * 5 + 4, none⟩) hlt5).trans x4
        obtain ⟨t0, t1, t2, t3, t4, _⟩ := BB.c5
        have hfz6 := HM6.out.fz
        have HBA := hid BA
        have hne1 : ¬ p1 = g := by omega
        have hne2 : ¬ p0 = g := by omega
        have hbr6 := thenB hb5 hb6
        clear x0 x1 x2 x3 x4 y0 y1 y2 y3 y4 hfz BA BB
        go_upto_region 22 with fail
        clear x0' x1' x2' x3' x4' t0 t1 t2 t3 t4 hfz6
        have HM7 := hid (HM6.out.put i hi (.string L[j].name) (.slice d1 L[j].uses.length f1) (.slice d2 L[j].decls.length f2) (.slice d3 L[j].procs.length f3) (.slice d4 L[j].main.length f4))
        have HBA7 : Hid (Blk (put5 w6 g (i * 5) (.string L[j].name) (.slice d1 L[j].uses.length f1) (.slice d2 L[j].decls.length f2) (.slice d3 L[j].procs.length f3) (.slice d4 L[j].main.length f4)) p1 [.string L[i].name, .slice a1 L[i].uses.length c1, .slice a2 L[i].decls.length c2, .slice a3 L[i].procs.length c3, .slice a4 L[i].main.length c4]) := put5_blk HBA.out hne1
        have hbr7 : Below wr.heap.size wr (put5 w6 g (i * 5) (.string L[j].name) (.slice d1 L[j].uses.length f1) (.slice d2 L[j].decls.length f2) (.slice d3 L[j].procs.length f3) (.slice d4 L[j].main.length f4)) := put5_below hbr6 hgb
        show Code.wp _ _ _ _ (put5 w6 g (i * 5) (.string L[j].name) (.slice d1 L[j].uses.length f1) (.slice d2 L[j].decls.length f2) (.slice d3 L[j].procs.length f3) (.slice d4 L[j].main.length f4))
        generalize put5 w6 g (i * 5) (.string L[j].name) (.slice d1 L[j].uses.length f1) (.slice d2 L[j].decls.length f2) (.slice d3 L[j].procs.length f3) (.slice d4 L[j].main.length f4) = w7 at HM7 HBA7 hbr7 ⊢
        have hgl7 := HM7.out.lt
        have hfz7 := HM7.out.fz
        obtain ⟨z0, hz0⟩ : ∃ u, w7.cell? ⟨g, j * 5, none⟩ = some u := HM7.out.some j hj 0 (by omega)
        obtain ⟨z1, hz1⟩ := HM7.out.some j hj 1 (by omega)
        obtain ⟨z2, hz2⟩ := HM7.out.some j hj 2 (by omega)
        obtain ⟨z3, hz3⟩ := HM7.out.some j hj 3 (by omega)
        obtain ⟨z4, hz4⟩ := HM7.out.some j hj 4 (by omega)
        obtain ⟨s0, s1, s2, s3, s4, hpl7⟩ := HBA7.out.c5
        clear HM6 HBA hpl hql hgl6 hbr6
        go_upto_region 23 with fail
        clear hz0 hz1 hz2 hz3 hz4 s0 s1 s2 s3 s4 hfz7
        have HM8 := hid (HM7.out.put j hj (.string L[i].name) (.slice a1 L[i].uses.length c1) (.slice a2 L[i].decls.length c2) (.slice a3 L[i].procs.length c3) (.slice a4 L[i].main.length c4))
        have hbr8 : Below wr.heap.size wr (put5 w7 g (j * 5) (.string L[i].name) (.slice a1 L[i].uses.length c1) (.slice a2 L[i].decls.length c2) (.slice a3 L[i].procs.length c3) (.slice a4 L[i].main.length c4)) := put5_below hbr7 hgb
        show Code.wp _ _ _ _ (put5 w7 g (j * 5) (.string L[i].name) (.slice a1 L[i].uses.length c1) (.slice a2 L[i].decls.length c2) (.slice a3 L[i].procs.length c3) (.slice a4 L[i].main.length c4))
        generalize put5 w7 g (j * 5) (.string L[i].name) (.slice a1 L[i].uses.length c1) (.slice a2 L[i].decls.length c2) (.slice a3 L[i].procs.length c3) (.slice a4 L[i].main.length c4) = w8 at HM8 hbr8 ⊢
        clear HM7 HBA7 hbr7 hpl7 hgl7
        have hbw8 := thenB hbw hbr8
        have HD8 : Hid (DAt w8 Tt (some ⟨g, 0, none⟩) (swapL L i j hi hj).length (mosD (swapL L i j hi hj))) := by
          have hM := HM8.out
          rw [← swap_len hi hj] at hM
          refine hM.dat (by rw [swap_len]; omega) (fun q hq => ?_)
          have hq' : q < L.length := by rw [swap_len] at hq; exact hq
          have hmv : Moves w Tt w8 Tt := Moves.of_below hbw8 Tt
          by_cases e1 : q = j
          · subst e1
            simp only [if_true, swapL, List.getElem_set_self]
            exact DVals.moves hmv _ _ (mo_vals HMi.out)
          · have e1' : ¬ j = q := fun h => e1 h.symm
            simp only [if_neg e1, swapL]
            rw [List.getElem_set_ne e1']
            by_cases e2 : q = i
            · subst e2
              simp only [if_true, List.getElem_set_self]
              exact DVals.moves hmv _ _ (mo_vals HMj.out)
            · have e2' : ¬ i = q := fun h => e2 h.symm
              simp only [if_neg e2]
              rw [List.getElem_set_ne e2']
              exact DVals.moves hmv _ _ (HCd.out q hq')
        have HSo8 := hid (Sort_any (swapL L i j hi hj) (some ⟨g, 0, none⟩) cg w8 HD8.out)
        rw [swap_len] at HSo8
        have HE8 : Hid (ordE (swapL L i j hi hj) = 0) := ordE_perm (swap_perm hi hj) HE.out
        have HS8 : Hid (sortL (swapL L i j hi hj) = some S) := (sortL_perm (swap_perm hi hj) hnd).trans HSe.out
        go_wp2_with fail
        refine HSo8.out.mono ?_
        rintro e w9 ⟨hs, hb9⟩
        rcases hs with ⟨h, _⟩ | ⟨_, h, _⟩ | ⟨S9, v9, _, hS9, rfl, hv9⟩
        · exact (h HE8.out).elim
        · rw [HS8.out] at h; cases h
        rw [HS8.out] at hS9
        obtain rfl : S = S9 := by injection hS9
        have HV9 := hid hv9
        obtain ⟨pa9, pc9, rfl, hx9⟩ := hv9
        rw [show (S.map (ixL (swapL L i j hi hj))).length = L.length from by rw [List.length_map]; exact hSl] at *
        have HD9 := hid (HD8.out.later hb9)
        have HV39 := hid ((HV3.out.later hbW).later (thenB hbr8 hb9))
        have hbw9 := thenB hbw8 hb9
        clear hx9 hS9 HSo8 HM8
        have HS9 : Hid (SortIs (swapL L i j hi hj) S) := sort_of HS8.out
        go_wp2_with fail
        go_loopw [21] (fun x wx => ∃ q m : Nat, q ≤ L.length ∧ x = .int .i64 q ∧ wx = w9.drewN m) (fun x _ => L.length - (intOf x).toNat)
        case atStart => exact ⟨0, 0, Nat.zero_le _, rfl, rfl⟩
        case round =>
          obtain ⟨q, m9, hq, rfl, hwx⟩ := hrel
          have HW9 := hid hwx
          have hb10 : Below w9.heap.size w9 wr := by rw [hwx]; exact below_drewN (Below.refl _ _) m9
          clear hwx
          by_cases hqt : q < L.length
          · have hqS : q < S.length := by omega
            obtain ⟨vb2, ev, hvl9, hvc9⟩ := (HV39.out.later hb10).at (j := q) (by simpa using hqS)
            injection ev with ev
            injection ev with ev
            subst ev
            obtain ⟨ob, rfl, hol, hoc⟩ := (HV9.out.later hb10).at (j := q) (by simpa using hqS)
            have hS1 : S[q] ∈ nmL L := HSo.out.mem _ (List.getElem_mem hqS)
            have hS2 : S[q] ∈ nmL (swapL L i j hi hj) := HS9.out.mem _ (List.getElem_mem hqS)
            have hz1 := ix_lt hS1
            have hz2 := ix_lt hS2
            have hvc9' : wr.cell? ⟨vb, q, none⟩ = some (.int .i64 (((nmL L).idxOf S[q] : Nat) : Int)) := by rw [hvc9]; simp [ixL]
            have hoc' : wr.cell? ⟨ob, q, none⟩ = some (.int .i64 (((nmL (swapL L i j hi hj)).idxOf S[q] : Nat) : Int)) := by rw [hoc]; simp [ixL]
            obtain ⟨_, _, _, _, _, _, _, _, _, _, _, ea, hlbl, _, n1, _, _, _, _⟩ := HD.out.mo _ hz1
            injection ea with ea
            injection ea with ea1 ea2
            subst ea1
            subst ea2
            obtain ⟨_, _, _, _, _, _, _, _, _, _, _, ea, hlbo, _, n2, _, _, _, _⟩ := (HD9.out.later hb10).mo _ hz2
            injection ea with ea
            injection ea with ea1 ea2
            subst ea1
            subst ea2
            have n1' := ((thenB hbw9 hb10).cell (p := ⟨b', off + (nmL L).idxOf S[q] * 5, none⟩) hlb).trans n1
            have hlb9 : b' < wr.heap.size := Nat.lt_of_lt_of_le hlb (thenB hbw9 hb10).size
            rw [← str_ix hS1] at n1'
            rw [← str_ix hS2, Nat.zero_add] at n2
            have hzz1 : (((nmL L).idxOf S[q] : Nat) : Int) < (L.length : Int) := by omega
            have hzz2 : (((nmL (swapL L i j hi hj)).idxOf S[q] : Nat) : Int) < (L.length : Int) := by rw [swap_len] at hz2; omega
            have hz3 : (nmL (swapL L i j hi hj)).idxOf S[q] < L.length := by rw [swap_len] at hz2; exact hz2
            generalize strOf S[q] = sq at *
            generalize (nmL (swapL L i j hi hj)).idxOf S[q] = y at hoc' n2 hzz2 hz3
            clear n1 hvc9 hoc
            go_wp2_with fail
            go_quiet ((fail))
            go_wp2_with fail
            go_roundw
            case rel => exact ⟨q + 1, m9 + nq, by omega, by go_num, by rw [HW9.out, World.drewN_drewN]⟩
            case measure => simp [intOf]; omega
          · go_wp2_with fail
            refine (orderBegun_any _).mono ?_
            rintro e w11 ⟨rfl, hb11⟩
            go_wp2_with fail
            go_ret
            exact ⟨rfl, thenB hbw9 (thenB hb10 hb11)⟩
    · have hzi : (((nmL L).idxOf S[p] : Nat) : Int) ≠ (i : Int) := by
        intro h
        have h' : (nmL L).idxOf S[p] = i := by omega
        have := ix_name hSp
        simp only [h'] at this
        exact hpe this.symm
      have hzb : ((((nmL L).idxOf S[p] : Nat) : Int) == (i : Int)) = false := by rw [beq_eq_false_iff_ne]; exact hzi
      obtain ⟨b2, off2, mv2, e1, f1, e2, f2, e3, f3, e4, f4, ea, hlb2, hM2, n0, _, _, _, _⟩ := HD.out.mo _ hz
      injection ea with ea
      injection ea with ea1 ea2
      subst ea1
      subst ea2
      have hzn : ¬ (nmL L).idxOf S[p] = i := fun h => hzi (by rw [h])
      have hpL : p < L.length := by omega
      have HP2 : Hid (∀ q (h : q < S.length), q < p + 1 → S[q] ≠ L[i].name.data.toList) := fun q h h1 => by
        by_cases e : q = p
        · subst e; exact hpe
        · exact HP.out q h (by omega)
      have hv3 : w3.cell? ⟨vb, p, none⟩ = some (.int .i64 (((nmL L).idxOf S[p] : Nat) : Int)) := by have := hvc'; rw [HW.out] at this; exact this
      have hvl3 : vb < w3.heap.size := by have := hvl; rw [HW.out] at this; exact this
      go_wp2_with fail
      clear hvc'
      go_loopw [15, 13] (fun y c wy => ∃ (q m' : Nat), q ≤ l.length ∧ y = .int .i64 q ∧ c = .int .i64 ((Og.seenN (S.take p) l + (l.take q).count S[p] : Nat) : Int) ∧ wy = w3.drewN m') (fun y _ _ => l.length - (intOf y).toNat)
      case atStart => exact ⟨0, m, Nat.zero_le _, rfl, by simp, HW.out⟩
      case round =>
        obtain ⟨q, m', hq, rfl, rfl, hwr⟩ := hrel
        have HW' := hid hwr
        have hbY : Below w3.heap.size w3 wr := by rw [hwr]; exact below_drewN (Below.refl _ _) m'
        clear hwr
        have hcb : (l.take q).count S[p] ≤ 4 := Nat.le_trans (List.count_le_length) (by rw [List.length_take]; omega)
        by_cases hqt : q < l.length
        · obtain ⟨nb, rfl, hnl, hnc⟩ := (HU.out.later hbY).at hqt
          have hv5 := (hbY.cell (p := ⟨vb, p, none⟩) hvl3).trans hv3
          have hvl5 : vb < wr.heap.size := Nat.lt_of_lt_of_le hvl3 hbY.size
          have hbYw := thenB hbb3 hbY
          have n5 := (hbYw.cell (p := ⟨b', off + (nmL L).idxOf S[p] * 5, none⟩) hlb).trans n0
          have hlb5 : b' < wr.heap.size := Nat.lt_of_lt_of_le hlb hbYw.size
          rw [← hstr] at n5
          clear hstr
          have HE : Hid (((strOf S[p]).toList == (strOf l[q]).toList) = (l[q] == S[p])) := by
            show _ = _
            rw [str_eq, strOf_list, strOf_list]
          have HCt : Hid ((l.take (q + 1)).count S[p] = (l.take q).count S[p] + (if l[q] == S[p] then 1 else 0)) := by
            show _ = _
            rw [List.take_succ_eq_append_getElem hqt, List.count_append]
            simp [List.count_cons]
          have hz0 : (0 : Int) ≤ (((nmL L).idxOf S[p] : Nat) : Int) := by omega
          have hz1 : (((nmL L).idxOf S[p] : Nat) : Int) < (L.length : Int) := by omega
          generalize strOf S[p] = sp at *
          generalize strOf l[q] = sq at *
          cases heq : (sp.toList == sq.toList) with
          | true =>
            have HC2 : Hid ((l.take (q + 1)).count S[p] = (l.take q).count S[p] + 1) := by
              show _ = _
              rw [HCt.out, ← HE.out, heq]; rfl
            clear HE HCt
            go_wp2_with fail
            go_quiet ((fail))
            go_wp2_with fail
            go_roundw
            case rel => exact ⟨q + 1, m' + nq, by omega, by go_num, by rw [HC2.out]; go_num, by rw [HW'.out, World.drewN_drewN]⟩
            case measure => simp [intOf]; omega
          | false =>
            have HC2 : Hid ((l.take (q + 1)).count S[p] = (l.take q).count S[p]) := by
              show _ = _
              rw [HCt.out, ← HE.out, heq]; rfl
            clear HE HCt
            go_wp2_with fail
            go_quiet ((fail))
            go_wp2_with fail
            go_roundw
            case rel => exact ⟨q + 1, m' + nq, by omega, by go_num, by rw [HC2.out], by rw [HW'.out, World.drewN_drewN]⟩
            case measure => simp [intOf]; omega
        · have HSn : Hid (Og.seenN (S.take p) l + (l.take q).count S[p] = Og.seenN (S.take (p + 1)) l) := by
            show _ = _
            have e : l.take q = l := List.take_of_length_le (by omega)
            rw [e, List.take_succ_eq_append_getElem hpS, Og.seenN_snoc]
          go_wp2_with fail
          go_roundw
          case rel => exact ⟨p + 1, m', by omega, by go_num, by rw [HSn.out], HP2.out, HW'.out⟩
          case measure => simp [intOf]; omega
end Go.Proofs.Ytplkbngnnaogkaa
