/-
  The reference's peephole, a way of its round: way_jump.
-/
import Derived.Test.YtpahhhhfhnpmjaaSd
import Derived.Laws.EntriesVeiled
namespace Go.Proofs.Ytpahhhhfhnpmjaa
open Go.RowKit Go.Shelf
set_option maxRecDepth 1000000

set_option maxHeartbeats 8000000 in
theorem way_jump (cap : Nat) (code : List Mc.Ins) (d : Int) (w : World) (mb cb nb ib g gc m b off k : Nat) (c : List Mc.Ins) (wr : World) (h0 : 0 < code.length) (h1 : code.length ≤ 2048) (hlt : k < code.length)
    (hP : Pk (some ⟨b, off, none⟩) cap code d w mb cb nb ib g gc m c wr) (hop : (c.getD k Mc.dI).op = 11)
    (R : Exit → Act → World → Prop) (s0 s2 s13 s14 s15 s16 s17 s18 s19 s20 s21 s232 s233 s234 s235 u9 u10 u11 u12 u22 u23 u24 u25 u26 u27 u28 u29 u30 u31 u32 u33 u34 u35 u36 u37 u38 u39 u40 u41 u42 u43 u44 u45 u46 u47 u48 u49 u50 u51 u52 u53 u54 u55 u56 u57 u58 u59 u60 u61 u62 u63 u64 u65 u66 u67 u68 u69 u70 u71 u72 u73 u74 u75 u76 u77 u78 u79 u80 u81 u82 u83 u84 u85 u86 u87 u88 u89 u90 u91 u92 u93 u94 u95 u96 u97 u98 u99 u100 u101 u102 u103 u104 u105 u106 u107 u108 u109 u110 u111 u112 u113 u114 u115 u116 u117 u118 u119 u120 u121 u122 u123 u124 u125 u126 u127 u128 u129 u130 u131 u132 u133 u134 u135 u136 u137 u138 u139 u140 u141 u142 u143 u144 u145 u146 u147 u148 u149 u150 u151 u152 u153 u154 u155 u156 u157 u158 u159 u160 u161 u162 u163 u164 u165 u166 u167 u168 u169 u170 u171 u172 u173 u174 u175 u176 u177 u178 u179 u180 u181 u182 u183 u184 u185 u186 u187 u188 u189 u190 u191 u192 u193 u194 u195 u196 u197 u198 u199 u200 u201 u202 u203 u204 u205 u206 u207 u208 u209 u210 u211 u212 u213 u214 u215 u216 u217 u218 u219 u220 u221 u222 u223 u224 u225 u226 u227 u228 u229 u230 u231 : Value)
    (hR : ∀ (x v9 v10 v11 v12 v22 v23 v24 v25 v26 v27 v28 v29 v30 v31 v32 v33 v34 v35 v36 v37 v38 v39 v40 v41 v42 v43 v44 v45 v46 v47 v48 v49 v50 v51 v52 v53 v54 v55 v56 v57 v58 v59 v60 v61 v62 v63 v64 v65 v66 v67 v68 v69 v70 v71 v72 v73 v74 v75 v76 v77 v78 v79 v80 v81 v82 v83 v84 v85 v86 v87 v88 v89 v90 v91 v92 v93 v94 v95 v96 v97 v98 v99 v100 v101 v102 v103 v104 v105 v106 v107 v108 v109 v110 v111 v112 v113 v114 v115 v116 v117 v118 v119 v120 v121 v122 v123 v124 v125 v126 v127 v128 v129 v130 v131 v132 v133 v134 v135 v136 v137 v138 v139 v140 v141 v142 v143 v144 v145 v146 v147 v148 v149 v150 v151 v152 v153 v154 v155 v156 v157 v158 v159 v160 v161 v162 v163 v164 v165 v166 v167 v168 v169 v170 v171 v172 v173 v174 v175 v176 v177 v178 v179 v180 v181 v182 v183 v184 v185 v186 v187 v188 v189 v190 v191 v192 v193 v194 v195 v196 v197 v198 v199 v200 v201 v202 v203 v204 v205 v206 v207 v208 v209 v210 v211 v212 v213 v214 v215 v216 v217 v218 v219 v220 v221 v222 v223 v224 v225 v226 v227 v228 v229 v230 v231 : Value) (W : World), x = .int .i64 ((k + 1 : Nat) : Int) → Pk (some ⟨b, off, none⟩) cap code d w mb cb nb ib g gc m (Mc.lookAt code c (Mc.marks code) k) W → R .normal ⟨#[s0, .pointer (some ⟨w.heap.size, 0, none⟩), s2, .pointer (some ⟨mb, 0, none⟩), .pointer (some ⟨cb, 0, none⟩), .pointer (some ⟨nb, 0, none⟩), .pointer (some ⟨ib, 0, none⟩), .func (.func 20) #[] #[.pointer (some ⟨ib, 0, none⟩), .pointer (some ⟨mb, 0, none⟩)], x, v9, v10, v11, v12, s13, s14, s15, s16, s17, s18, s19, s20, s21, v22, v23, v24, v25, v26, v27, v28, v29, v30, v31, v32, v33, v34, v35, v36, v37, v38, v39, v40, v41, v42, v43, v44, v45, v46, v47, v48, v49, v50, v51, v52, v53, v54, v55, v56, v57, v58, v59, v60, v61, v62, v63, v64, v65, v66, v67, v68, v69, v70, v71, v72, v73, v74, v75, v76, v77, v78, v79, v80, v81, v82, v83, v84, v85, v86, v87, v88, v89, v90, v91, v92, v93, v94, v95, v96, v97, v98, v99, v100, v101, v102, v103, v104, v105, v106, v107, v108, v109, v110, v111, v112, v113, v114, v115, v116, v117, v118, v119, v120, v121, v122, v123, v124, v125, v126, v127, v128, v129, v130, v131, v132, v133, v134, v135, v136, v137, v138, v139, v140, v141, v142, v143, v144, v145, v146, v147, v148, v149, v150, v151, v152, v153, v154, v155, v156, v157, v158, v159, v160, v161, v162, v163, v164, v165, v166, v167, v168, v169, v170, v171, v172, v173, v174, v175, v176, v177, v178, v179, v180, v181, v182, v183, v184, v185, v186, v187, v188, v189, v190, v191, v192, v193, v194, v195, v196, v197, v198, v199, v200, v201, v202, v203, v204, v205, v206, v207, v208, v209, v210, v211, v212, v213, v214, v215, v216, v217, v218, v219, v220, v221, v222, v223, v224, v225, v226, v227, v228, v229, v230, v231, s232, s233, s234, s235], []⟩ W) :
    Code.wp Try.prog body9 R ⟨#[s0, .pointer (some ⟨w.heap.size, 0, none⟩), s2, .pointer (some ⟨mb, 0, none⟩), .pointer (some ⟨cb, 0, none⟩), .pointer (some ⟨nb, 0, none⟩), .pointer (some ⟨ib, 0, none⟩), .func (.func 20) #[] #[.pointer (some ⟨ib, 0, none⟩), .pointer (some ⟨mb, 0, none⟩)], .int .i64 (k : Int), u9, u10, u11, u12, s13, s14, s15, s16, s17, s18, s19, s20, s21, u22, u23, u24, u25, u26, u27, u28, u29, u30, u31, u32, u33, u34, u35, u36, u37, u38, u39, u40, u41, u42, u43, u44, u45, u46, u47, u48, u49, u50, u51, u52, u53, u54, u55, u56, u57, u58, u59, u60, u61, u62, u63, u64, u65, u66, u67, u68, u69, u70, u71, u72, u73, u74, u75, u76, u77, u78, u79, u80, u81, u82, u83, u84, u85, u86, u87, u88, u89, u90, u91, u92, u93, u94, u95, u96, u97, u98, u99, u100, u101, u102, u103, u104, u105, u106, u107, u108, u109, u110, u111, u112, u113, u114, u115, u116, u117, u118, u119, u120, u121, u122, u123, u124, u125, u126, u127, u128, u129, u130, u131, u132, u133, u134, u135, u136, u137, u138, u139, u140, u141, u142, u143, u144, u145, u146, u147, u148, u149, u150, u151, u152, u153, u154, u155, u156, u157, u158, u159, u160, u161, u162, u163, u164, u165, u166, u167, u168, u169, u170, u171, u172, u173, u174, u175, u176, u177, u178, u179, u180, u181, u182, u183, u184, u185, u186, u187, u188, u189, u190, u191, u192, u193, u194, u195, u196, u197, u198, u199, u200, u201, u202, u203, u204, u205, u206, u207, u208, u209, u210, u211, u212, u213, u214, u215, u216, u217, u218, u219, u220, u221, u222, u223, u224, u225, u226, u227, u228, u229, u230, u231, s232, s233, s234, s235], []⟩ wr := by
  conv => arg 2; whnf
  have HR := hid hR
  clear hR
  have HPk := hid hP
  have HLen : Hid (c.length = code.length) := hP.hole.lc
  obtain ⟨iX, hiX⟩ : ∃ iX : Int → Bool, ∀ op, iX op = isB c k op := ⟨_, fun _ => rfl⟩
  obtain ⟨bX, hbX⟩ : ∃ bX : Int → Int → Bool, ∀ x op, bX x op = Mc.bareB c (Mc.marks code) x.toNat op := ⟨_, fun _ _ => rfl⟩
  have HIs : Hid (∀ op, Calls Try.prog 19 #[.int .i64 (k : Int), .int .i64 op, .pointer (some ⟨cb, 0, none⟩)] wr fun e w' => e = .returned (.bool (iX op)) ∧ w' = wr) := fun op => by rw [hiX]; exact hP.is (k : Int) op k rfl
  have HBr : Hid (∀ x op, 0 ≤ x → Calls Try.prog 20 #[.int .i64 x, .int .i64 op, .pointer (some ⟨ib, 0, none⟩), .pointer (some ⟨mb, 0, none⟩)] wr fun e w' => e = .returned (.bool (bX x op)) ∧ w' = wr) := fun x op h => by rw [hbX]; exact hP.bare x op x.toNat (by omega)
  have HLk : Hid (∀ c' W, CRow W g c' → c'.length = c.length → wr.grownBy W (some g) → Pk (some ⟨b, off, none⟩) cap code d w mb cb nb ib g gc m c' W) := fun c' W h1 h2 h3 => HPk.out.look h1 h2 h3
  have bc := hP.bc
  have bi := hP.bi
  have HC : Hid (CRow wr g c) := hP.hole.code
  have hcg := hP.cg
  have hgc' : ¬ g = cb := fun e => hcg e.symm
  have hng := hP.ng
  have hgn' : ¬ g = nb := fun e => hng e.symm
  have HA0 := hid hP.a0
  have HOld : Hid (∀ t, t < code.length → wr.cell? ⟨b, off + t * 3, none⟩ = some (.int .i64 (code.getD t Mc.dI).op) ∧ wr.cell? ⟨b, off + t * 3 + 1, none⟩ = some (.int .i64 (code.getD t Mc.dI).a)) := by
    obtain ⟨b', off', e', _, hx⟩ := hP.hole.old.get h0
    cases e'
    exact fun t ht => ⟨(hx t ht).1, (hx t ht).2.1⟩
  have hbg := hP.hole.apart b off rfl
  have hgb : ¬ g = b := fun e => hbg e.symm
  have hgw := hP.gw
  have hwg : ¬ w.heap.size = g := by omega
  have hgw' : ¬ g = w.heap.size := by omega
  have HNop : Hid (wr.cell? ⟨nb, 0, none⟩ = some (.int .i64 21) ∧ wr.cell? ⟨nb, 1, none⟩ = some (.int .i64 0) ∧ wr.cell? ⟨nb, 2, none⟩ = some (.int .i64 0)) := ⟨hP.n0, hP.n1, hP.n2⟩
  have c1 := HC.out.a k (by rw [HLen.out]; exact hlt)
  have HF : Hid (∀ t, t < code.length → (wr.frozen? ⟨g, t * 3, none⟩ = false ∧ wr.frozen? ⟨g, t * 3 + 1, none⟩ = false ∧ wr.frozen? ⟨g, t * 3 + 2, none⟩ = false) ∧ wr.cell? ⟨g, t * 3, none⟩ = some (.int .i64 (c.getD t Mc.dI).op) ∧ wr.cell? ⟨g, t * 3 + 1, none⟩ = some (.int .i64 (c.getD t Mc.dI).a) ∧ wr.cell? ⟨g, t * 3 + 2, none⟩ = some (.int .i64 (c.getD t Mc.dI).b)) := fun t ht => ⟨⟨HC.out.fz _ (by rw [HLen.out]; omega), HC.out.fz _ (by rw [HLen.out]; omega), HC.out.fz _ (by rw [HLen.out]; omega)⟩, HC.out.op t (by rw [HLen.out]; exact ht), HC.out.a t (by rw [HLen.out]; exact ht), HC.out.b t (by rw [HLen.out]; exact ht)⟩
  clear hP
  have b1 : iX 1 = false := by rw [hiX]; unfold isB; rw [hop]; simp [HLen.out, hlt]
  have b11 : iX 11 = true := by rw [hiX]; unfold isB; rw [hop]; simp [HLen.out, hlt]
  have HLo : Hid (Mc.lookAt code c (Mc.marks code) k = Mc.shorten code c k) := by
    show _ = _
    unfold Mc.lookAt
    rw [if_pos (by unfold Mc.jumpB; rw [hop]; simp)]
  have HSh : Hid (∀ x, Mc.shortB code (c.getD k Mc.dI) k = x → Mc.shorten code c k = if x then c.set k { c.getD k Mc.dI with a := (code.getD (c.getD k Mc.dI).a.toNat Mc.dI).a } else c) := fun x hx => by unfold Mc.shorten; rw [hx]
  have HSB : Hid (Mc.shortB code (c.getD k Mc.dI) k = (decide (0 ≤ (c.getD k Mc.dI).a) && decide ((c.getD k Mc.dI).a < code.length) && !decide ((c.getD k Mc.dI).a = k) && decide ((code.getD (c.getD k Mc.dI).a.toNat Mc.dI).op = 11))) := rfl
  have HSet : Hid (∀ v, CRow (wr.setCell ⟨g, k * 3 + 1, none⟩ (.int .i64 v)) g (c.set k ⟨(c.getD k Mc.dI).op, v, (c.getD k Mc.dI).b⟩)) := fun v => HC.out.setA k (by rw [HLen.out]; exact hlt) v
  have f1 := (HF.out k hlt).1.2.1
  have a0 := HA0.out
  have hlk : (k : Int) < (code.length : Int) := by omega
  clear hop hiX hbX
  generalize c.getD k Mc.dI = x at *
  obtain ⟨xo, ta, tb⟩ := x
  simp only at c1 HSh HSB HSet
  by_cases hin : 0 ≤ ta ∧ ta < code.length
  · obtain ⟨hin0, hin1⟩ := hin
    obtain ⟨t, rfl⟩ := Int.eq_ofNat_of_zero_le hin0
    have htl : t < code.length := by omega
    have HW := hid (fun W => within_any true (t : Int) 0 ((code.length : Int) - 1) W (inB_true (by omega) (by omega)))
    obtain ⟨o0, o1⟩ := HOld.out t htl
    by_cases htk : t = k
    · have HEq : Hid (Mc.lookAt code c (Mc.marks code) k = c) := HLo.out.trans (HSh.out false (by rw [HSB.out]; simp [htk]))
      have htk' := htk.symm
      subst htk'
      clear HSB HSh HLo
      go_wp2_with (first | (go_at_call 19; refine (HIs.out _).mono ?_; rintro e w' ⟨rfl, rfl⟩) | (go_at_call 20; refine (HBr.out _ _ (by omega)).mono ?_; rintro e w' ⟨rfl, rfl⟩) | (go_at_call 18; refine (HW.out _).mono ?_; rintro e w' ⟨rfl, rfl⟩))
      refine HR.out _ _ _ _ _ _ _ _ _ _ _ _ _ _ _ _ _ _ _ _ _ _ _ _ _ _ _ _ _ _ _ _ _ _ _ _ _ _ _ _ _ _ _ _ _ _ _ _ _ _ _ _ _ _ _ _ _ _ _ _ _ _ _ _ _ _ _ _ _ _ _ _ _ _ _ _ _ _ _ _ _ _ _ _ _ _ _ _ _ _ _ _ _ _ _ _ _ _ _ _ _ _ _ _ _ _ _ _ _ _ _ _ _ _ _ _ _ _ _ _ _ _ _ _ _ _ _ _ _ _ _ _ _ _ _ _ _ _ _ _ _ _ _ _ _ _ _ _ _ _ _ _ _ _ _ _ _ _ _ _ _ _ _ _ _ _ _ _ _ _ _ _ _ _ _ _ _ _ _ _ _ _ _ _ _ _ _ _ _ _ _ _ _ _ _ _ _ _ _ _ _ _ _ _ _ _ _ _ _ _ _ _ _ _ _ _ (by go_num) ?_
      rw [HEq.out]
      exact HPk.out
    · by_cases h4 : (code.getD t Mc.dI).op = 11
      · have e1 : (t : Int) < code.length := by omega
        have e2 : ¬ (t : Int) = k := by omega
        have HEq : Hid (Mc.lookAt code c (Mc.marks code) k = c.set k ⟨xo, (code.getD ((t : Int)).toNat Mc.dI).a, tb⟩) := HLo.out.trans ((HSh.out true (by rw [HSB.out, Int.toNat_natCast, h4]; simp [e1, e2])).trans (if_pos rfl))
        rw [h4] at o0
        rw [Int.toNat_natCast] at HEq
        replace HSet := hid (HSet.out (code.getD t Mc.dI).a)
        generalize code.getD t Mc.dI = y at *
        obtain ⟨yo, ya, yb⟩ := y
        simp only at o0 o1 HEq HSet
        clear HSB HSh HLo h4
        go_wp2_with (first | (go_at_call 19; refine (HIs.out _).mono ?_; rintro e w' ⟨rfl, rfl⟩) | (go_at_call 20; refine (HBr.out _ _ (by omega)).mono ?_; rintro e w' ⟨rfl, rfl⟩) | (go_at_call 18; refine (HW.out _).mono ?_; rintro e w' ⟨rfl, rfl⟩))
        have ht0 : (0 : Int) ≤ (t : Int) := by omega
        have ht1 : (t : Int) < (code.length : Int) := by omega
        have hk0 : (0 : Int) ≤ (k : Int) := by omega
        go_region_held3 (fun W => W.cell? ⟨cb, 0, none⟩ = some (.slice (some ⟨g, 0, none⟩) code.length gc) ∧ W.cell? ⟨w.heap.size, 0, none⟩ = some (.slice (some ⟨b, off, none⟩) code.length cap) ∧ W.cell? ⟨b, off + t * 3 + 1, none⟩ = some (.int .i64 ya)) (go_keep) (fail)
        all_goals
          go_wp2_with fail
          refine HR.out _ _ _ _ _ _ _ _ _ _ _ _ _ _ _ _ _ _ _ _ _ _ _ _ _ _ _ _ _ _ _ _ _ _ _ _ _ _ _ _ _ _ _ _ _ _ _ _ _ _ _ _ _ _ _ _ _ _ _ _ _ _ _ _ _ _ _ _ _ _ _ _ _ _ _ _ _ _ _ _ _ _ _ _ _ _ _ _ _ _ _ _ _ _ _ _ _ _ _ _ _ _ _ _ _ _ _ _ _ _ _ _ _ _ _ _ _ _ _ _ _ _ _ _ _ _ _ _ _ _ _ _ _ _ _ _ _ _ _ _ _ _ _ _ _ _ _ _ _ _ _ _ _ _ _ _ _ _ _ _ _ _ _ _ _ _ _ _ _ _ _ _ _ _ _ _ _ _ _ _ _ _ _ _ _ _ _ _ _ _ _ _ _ _ _ _ _ _ _ _ _ _ _ _ _ _ _ _ _ _ _ _ _ _ _ _ (by go_num) ?_
          rw [HEq.out]
          first
            | exact HLk.out _ _ HSet.out (by simp) (put_grown _ _ _)
            | exact HLk.out _ _ HSet.out.drew (by simp) (grown_drew (put_grown _ _ _))
      · have HEq : Hid (Mc.lookAt code c (Mc.marks code) k = c) := HLo.out.trans (HSh.out false (by rw [HSB.out, Int.toNat_natCast]; simp only [h4, decide_false, Bool.and_false]))
        generalize code.getD t Mc.dI = y at *
        obtain ⟨yo, ya, yb⟩ := y
        simp only at o0 o1 h4
        have h4' : (yo == 11) = false := beq_eq_false_iff_ne.2 h4
        clear HSB HSh HLo
        go_wp2_with (first | (go_at_call 19; refine (HIs.out _).mono ?_; rintro e w' ⟨rfl, rfl⟩) | (go_at_call 20; refine (HBr.out _ _ (by omega)).mono ?_; rintro e w' ⟨rfl, rfl⟩) | (go_at_call 18; refine (HW.out _).mono ?_; rintro e w' ⟨rfl, rfl⟩))
        refine HR.out _ _ _ _ _ _ _ _ _ _ _ _ _ _ _ _ _ _ _ _ _ _ _ _ _ _ _ _ _ _ _ _ _ _ _ _ _ _ _ _ _ _ _ _ _ _ _ _ _ _ _ _ _ _ _ _ _ _ _ _ _ _ _ _ _ _ _ _ _ _ _ _ _ _ _ _ _ _ _ _ _ _ _ _ _ _ _ _ _ _ _ _ _ _ _ _ _ _ _ _ _ _ _ _ _ _ _ _ _ _ _ _ _ _ _ _ _ _ _ _ _ _ _ _ _ _ _ _ _ _ _ _ _ _ _ _ _ _ _ _ _ _ _ _ _ _ _ _ _ _ _ _ _ _ _ _ _ _ _ _ _ _ _ _ _ _ _ _ _ _ _ _ _ _ _ _ _ _ _ _ _ _ _ _ _ _ _ _ _ _ _ _ _ _ _ _ _ _ _ _ _ _ _ _ _ _ _ _ _ _ _ _ _ _ _ _ (by go_num) ?_
        rw [HEq.out]
        exact HPk.out
  · have HW := hid (fun W => within_any false ta 0 ((code.length : Int) - 1) W (inB_false (by omega)))
    have HEq : Hid (Mc.lookAt code c (Mc.marks code) k = c) := HLo.out.trans (HSh.out false (by rw [HSB.out]; simp only [Bool.and_eq_false_iff, decide_eq_false_iff_not]; omega))
    clear HSB HSh HLo hin
    go_wp2_with (first | (go_at_call 19; refine (HIs.out _).mono ?_; rintro e w' ⟨rfl, rfl⟩) | (go_at_call 20; refine (HBr.out _ _ (by omega)).mono ?_; rintro e w' ⟨rfl, rfl⟩) | (go_at_call 18; refine (HW.out _).mono ?_; rintro e w' ⟨rfl, rfl⟩))
    refine HR.out _ _ _ _ _ _ _ _ _ _ _ _ _ _ _ _ _ _ _ _ _ _ _ _ _ _ _ _ _ _ _ _ _ _ _ _ _ _ _ _ _ _ _ _ _ _ _ _ _ _ _ _ _ _ _ _ _ _ _ _ _ _ _ _ _ _ _ _ _ _ _ _ _ _ _ _ _ _ _ _ _ _ _ _ _ _ _ _ _ _ _ _ _ _ _ _ _ _ _ _ _ _ _ _ _ _ _ _ _ _ _ _ _ _ _ _ _ _ _ _ _ _ _ _ _ _ _ _ _ _ _ _ _ _ _ _ _ _ _ _ _ _ _ _ _ _ _ _ _ _ _ _ _ _ _ _ _ _ _ _ _ _ _ _ _ _ _ _ _ _ _ _ _ _ _ _ _ _ _ _ _ _ _ _ _ _ _ _ _ _ _ _ _ _ _ _ _ _ _ _ _ _ _ _ _ _ _ _ _ _ _ _ _ _ _ _ (by go_num) ?_
    rw [HEq.out]
    exact HPk.out

end Go.Proofs.Ytpahhhhfhnpmjaa
