/-
  The reference's peephole, a way of its round: way_bool.
-/
import Derived.Test.YtpahhhhfhnpmjaaSd
import Derived.Laws.EntriesVeiled
namespace Go.Proofs.Ytpahhhhfhnpmjaa
open Go.RowKit Go.Shelf
set_option maxRecDepth 1000000

set_option maxHeartbeats 8000000 in
theorem way_bool (cap : Nat) (code : List Mc.Ins) (d : Int) (w : World) (mb cb nb ib g gc m b off k : Nat) (c : List Mc.Ins) (wr : World) (h0 : 0 < code.length) (h1 : code.length ≤ 2048) (hlt : k < code.length)
    (hP : Pk (some ⟨b, off, none⟩) cap code d w mb cb nb ib g gc m c wr) (hop : (c.getD k Mc.dI).op = 1) (s1 : Mc.bareB c (Mc.marks code) (k + 1) 1 = false) (s12 : Mc.bareB c (Mc.marks code) (k + 1) 12 = false) (s9 : Mc.bareB c (Mc.marks code) (k + 1) 9 = false) (s22 : Mc.bareB c (Mc.marks code) (k + 1) 22 = true)
    (R : Exit → Act → World → Prop) (hQ : ∀ (ch : _) (a : Act) (o : Oper) (v : Value) (w : World), R (.panic ch) (a.put o.dst v) w → R (.panic ch) a w) (s0 s2 s13 s14 s15 s16 s17 s18 s19 s20 s21 s232 s233 s234 s235 u9 u10 u11 u12 u22 u23 u24 u25 u26 u27 u28 u29 u30 u31 u32 u33 u34 u35 u36 u37 u38 u39 u40 u41 u42 u43 u44 u45 u46 u47 u48 u49 u50 u51 u52 u53 u54 u55 u56 u57 u58 u59 u60 u61 u62 u63 u64 u65 u66 u67 u68 u69 u70 u71 u72 u73 u74 u75 u76 u77 u78 u79 u80 u81 u82 u83 u84 u85 u86 u87 u88 u89 u90 u91 u92 u93 u94 u95 u96 u97 u98 u99 u100 u101 u102 u103 u104 u105 u106 u107 u108 u109 u110 u111 u112 u113 u114 u115 u116 u117 u118 u119 u120 u121 u122 u123 u124 u125 u126 u127 u128 u129 u130 u131 u132 u133 u134 u135 u136 u137 u138 u139 u140 u141 u142 u143 u144 u145 u146 u147 u148 u149 u150 u151 u152 u153 u154 u155 u156 u157 u158 u159 u160 u161 u162 u163 u164 u165 u166 u167 u168 u169 u170 u171 u172 u173 u174 u175 u176 u177 u178 u179 u180 u181 u182 u183 u184 u185 u186 u187 u188 u189 u190 u191 u192 u193 u194 u195 u196 u197 u198 u199 u200 u201 u202 u203 u204 u205 u206 u207 u208 u209 u210 u211 u212 u213 u214 u215 u216 u217 u218 u219 u220 u221 u222 u223 u224 u225 u226 u227 u228 u229 u230 u231 : Value)
    (hR : ∀ (x v9 v10 v11 v12 v22 v23 v24 v25 v26 v27 v28 v29 v30 v31 v32 v33 v34 v35 v36 v37 v38 v39 v40 v41 v42 v43 v44 v45 v46 v47 v48 v49 v50 v51 v52 v53 v54 v55 v56 v57 v58 v59 v60 v61 v62 v63 v64 v65 v66 v67 v68 v69 v70 v71 v72 v73 v74 v75 v76 v77 v78 v79 v80 v81 v82 v83 v84 v85 v86 v87 v88 v89 v90 v91 v92 v93 v94 v95 v96 v97 v98 v99 v100 v101 v102 v103 v104 v105 v106 v107 v108 v109 v110 v111 v112 v113 v114 v115 v116 v117 v118 v119 v120 v121 v122 v123 v124 v125 v126 v127 v128 v129 v130 v131 v132 v133 v134 v135 v136 v137 v138 v139 v140 v141 v142 v143 v144 v145 v146 v147 v148 v149 v150 v151 v152 v153 v154 v155 v156 v157 v158 v159 v160 v161 v162 v163 v164 v165 v166 v167 v168 v169 v170 v171 v172 v173 v174 v175 v176 v177 v178 v179 v180 v181 v182 v183 v184 v185 v186 v187 v188 v189 v190 v191 v192 v193 v194 v195 v196 v197 v198 v199 v200 v201 v202 v203 v204 v205 v206 v207 v208 v209 v210 v211 v212 v213 v214 v215 v216 v217 v218 v219 v220 v221 v222 v223 v224 v225 v226 v227 v228 v229 v230 v231 : Value) (W : World), x = .int .i64 ((k + 1 : Nat) : Int) → Pk (some ⟨b, off, none⟩) cap code d w mb cb nb ib g gc m (Mc.lookAt code c (Mc.marks code) k) W → R .normal ⟨#[s0, .pointer (some ⟨w.heap.size, 0, none⟩), s2, .pointer (some ⟨mb, 0, none⟩), .pointer (some ⟨cb, 0, none⟩), .pointer (some ⟨nb, 0, none⟩), .pointer (some ⟨ib, 0, none⟩), .func (.func 20) #[] #[.pointer (some ⟨ib, 0, none⟩), .pointer (some ⟨mb, 0, none⟩)], x, v9, v10, v11, v12, s13, s14, s15, s16, s17, s18, s19, s20, s21, v22, v23, v24, v25, v26, v27, v28, v29, v30, v31, v32, v33, v34, v35, v36, v37, v38, v39, v40, v41, v42, v43, v44, v45, v46, v47, v48, v49, v50, v51, v52, v53, v54, v55, v56, v57, v58, v59, v60, v61, v62, v63, v64, v65, v66, v67, v68, v69, v70, v71, v72, v73, v74, v75, v76, v77, v78, v79, v80, v81, v82, v83, v84, v85, v86, v87, v88, v89, v90, v91, v92, v93, v94, v95, v96, v97, v98, v99, v100, v101, v102, v103, v104, v105, v106, v107, v108, v109, v110, v111, v112, v113, v114, v115, v116, v117, v118, v119, v120, v121, v122, v123, v124, v125, v126, v127, v128, v129, v130, v131, v132, v133, v134, v135, v136, v137, v138, v139, v140, v141, v142, v143, v144, v145, v146, v147, v148, v149, v150, v151, v152, v153, v154, v155, v156, v157, v158, v159, v160, v161, v162, v163, v164, v165, v166, v167, v168, v169, v170, v171, v172, v173, v174, v175, v176, v177, v178, v179, v180, v181, v182, v183, v184, v185, v186, v187, v188, v189, v190, v191, v192, v193, v194, v195, v196, v197, v198, v199, v200, v201, v202, v203, v204, v205, v206, v207, v208, v209, v210, v211, v212, v213, v214, v215, v216, v217, v218, v219, v220, v221, v222, v223, v224, v225, v226, v227, v228, v229, v230, v231, s232, s233, s234, s235], []⟩ W) :
    Code.wp Try.prog body9 R ⟨#[s0, .pointer (some ⟨w.heap.size, 0, none⟩), s2, .pointer (some ⟨mb, 0, none⟩), .pointer (some ⟨cb, 0, none⟩), .pointer (some ⟨nb, 0, none⟩), .pointer (some ⟨ib, 0, none⟩), .func (.func 20) #[] #[.pointer (some ⟨ib, 0, none⟩), .pointer (some ⟨mb, 0, none⟩)], .int .i64 (k : Int), u9, u10, u11, u12, s13, s14, s15, s16, s17, s18, s19, s20, s21, u22, u23, u24, u25, u26, u27, u28, u29, u30, u31, u32, u33, u34, u35, u36, u37, u38, u39, u40, u41, u42, u43, u44, u45, u46, u47, u48, u49, u50, u51, u52, u53, u54, u55, u56, u57, u58, u59, u60, u61, u62, u63, u64, u65, u66, u67, u68, u69, u70, u71, u72, u73, u74, u75, u76, u77, u78, u79, u80, u81, u82, u83, u84, u85, u86, u87, u88, u89, u90, u91, u92, u93, u94, u95, u96, u97, u98, u99, u100, u101, u102, u103, u104, u105, u106, u107, u108, u109, u110, u111, u112, u113, u114, u115, u116, u117, u118, u119, u120, u121, u122, u123, u124, u125, u126, u127, u128, u129, u130, u131, u132, u133, u134, u135, u136, u137, u138, u139, u140, u141, u142, u143, u144, u145, u146, u147, u148, u149, u150, u151, u152, u153, u154, u155, u156, u157, u158, u159, u160, u161, u162, u163, u164, u165, u166, u167, u168, u169, u170, u171, u172, u173, u174, u175, u176, u177, u178, u179, u180, u181, u182, u183, u184, u185, u186, u187, u188, u189, u190, u191, u192, u193, u194, u195, u196, u197, u198, u199, u200, u201, u202, u203, u204, u205, u206, u207, u208, u209, u210, u211, u212, u213, u214, u215, u216, u217, u218, u219, u220, u221, u222, u223, u224, u225, u226, u227, u228, u229, u230, u231, s232, s233, s234, s235], []⟩ wr := by
  conv => arg 2; whnf
  have HR := hid hR
  clear hR
  have HPk := hid hP
  have HQ := hid hQ
  clear hQ
  have HLen : Hid (c.length = code.length) := hP.hole.lc
  obtain ⟨iX, hiX⟩ : ∃ iX : Int → Bool, ∀ op, iX op = isB c k op := ⟨_, fun _ => rfl⟩
  obtain ⟨bX, hbX⟩ : ∃ bX : Int → Int → Bool, ∀ x op, bX x op = Mc.bareB c (Mc.marks code) x.toNat op := ⟨_, fun _ _ => rfl⟩
  have HIs : Hid (∀ op, Calls Try.prog 19 #[.int .i64 (k : Int), .int .i64 op, .pointer (some ⟨cb, 0, none⟩)] wr fun e w' => e = .returned (.bool (iX op)) ∧ w' = wr) := fun op => by rw [hiX]; exact hP.is (k : Int) op k rfl
  have HBr : Hid (∀ x op, 0 ≤ x → Calls Try.prog 20 #[.int .i64 x, .int .i64 op, .pointer (some ⟨ib, 0, none⟩), .pointer (some ⟨mb, 0, none⟩)] wr fun e w' => e = .returned (.bool (bX x op)) ∧ w' = wr) := fun x op h => by rw [hbX]; exact hP.bare x op x.toNat (by omega)
  have HLk : Hid (∀ c' W, CRow W g c' → c'.length = c.length → wr.grownBy W (some g) → Pk (some ⟨b, off, none⟩) cap code d w mb cb nb ib g gc m c' W) := fun c' W h1 h2 h3 => HPk.out.look h1 h2 h3
  have bc := hP.bc
  have bi := hP.bi
  have HC : Hid (CRow wr g c) := hP.hole.code
  have hcg := hP.cg
  have hgc' : ¬ g = cb := fun e => hcg e.symm
  have hng := hP.ng
  have hgn' : ¬ g = nb := fun e => hng e.symm
  have HA0 := hid hP.a0
  have HOld : Hid (∀ t, t < code.length → wr.cell? ⟨b, off + t * 3, none⟩ = some (.int .i64 (code.getD t Mc.dI).op) ∧ wr.cell? ⟨b, off + t * 3 + 1, none⟩ = some (.int .i64 (code.getD t Mc.dI).a)) := by
    obtain ⟨b', off', e', _, hx⟩ := hP.hole.old.get h0
    cases e'
    exact fun t ht => ⟨(hx t ht).1, (hx t ht).2.1⟩
  have hbg := hP.hole.apart b off rfl
  have hgb : ¬ g = b := fun e => hbg e.symm
  have hgw := hP.gw
  have hwg : ¬ w.heap.size = g := by omega
  have hgw' : ¬ g = w.heap.size := by omega
  have HNop : Hid (wr.cell? ⟨nb, 0, none⟩ = some (.int .i64 21) ∧ wr.cell? ⟨nb, 1, none⟩ = some (.int .i64 0) ∧ wr.cell? ⟨nb, 2, none⟩ = some (.int .i64 0)) := ⟨hP.n0, hP.n1, hP.n2⟩
  have c1 := HC.out.a k (by rw [HLen.out]; exact hlt)
  have HF : Hid (∀ t, t < code.length → (wr.frozen? ⟨g, t * 3, none⟩ = false ∧ wr.frozen? ⟨g, t * 3 + 1, none⟩ = false ∧ wr.frozen? ⟨g, t * 3 + 2, none⟩ = false) ∧ wr.cell? ⟨g, t * 3, none⟩ = some (.int .i64 (c.getD t Mc.dI).op) ∧ wr.cell? ⟨g, t * 3 + 1, none⟩ = some (.int .i64 (c.getD t Mc.dI).a) ∧ wr.cell? ⟨g, t * 3 + 2, none⟩ = some (.int .i64 (c.getD t Mc.dI).b)) := fun t ht => ⟨⟨HC.out.fz _ (by rw [HLen.out]; omega), HC.out.fz _ (by rw [HLen.out]; omega), HC.out.fz _ (by rw [HLen.out]; omega)⟩, HC.out.op t (by rw [HLen.out]; exact ht), HC.out.a t (by rw [HLen.out]; exact ht), HC.out.b t (by rw [HLen.out]; exact ht)⟩
  clear hP
  have b1 : iX 1 = true := by rw [hiX]; unfold isB; rw [hop]; simp [HLen.out, hlt]
  have b11 : iX 11 = false := by rw [hiX]; unfold isB; rw [hop]; simp [HLen.out, hlt]
  have b12 : iX 12 = false := by rw [hiX]; unfold isB; rw [hop]; simp [HLen.out, hlt]
  have HPu : Hid (Mc.lookAt code c (Mc.marks code) k = Mc.folded c (Mc.marks code) k) := by
    show _ = _
    unfold Mc.lookAt
    rw [if_neg (by unfold Mc.jumpB; rw [hop]; decide), if_pos hop]
  have t1 : ((k : Int) + 1).toNat = k + 1 := by omega
  have t2 : ((k : Int) + 2).toNat = k + 2 := by omega
  have HTr : Hid (∀ b W, Calls Try.prog 23 #[.bool b] W fun e w' => e = .returned (.int .i64 (Mc.truth b)) ∧ w' = W) := fun b W => rtruth_any b W
  cases e1 : Mc.bareB c (Mc.marks code) (k + 1) 1 with
  | true =>
    have v1 : bX ((k : Int) + 1) 1 = true := by rw [hbX, t1]; exact e1
    have hk1 : k + 1 < code.length := by have := (Mc.bare_of e1).1; rw [HLen.out] at this; exact this
    have hoth : ∀ y : Int, y ≠ 1 → Mc.bareB c (Mc.marks code) (k + 1) y = false := fun y hy => by
      cases hq : Mc.bareB c (Mc.marks code) (k + 1) y with
      | false => rfl
      | true => exact absurd ((Mc.bare_of hq).2.1.symm.trans (Mc.bare_of e1).2.1) hy
    have o12 := hoth 12 (by decide)
    have o9 := hoth 9 (by decide)
    have o22 := hoth 22 (by decide)
    have o17 := hoth 17 (by decide)
    have v12 : bX ((k : Int) + 1) 12 = false := by rw [hbX, t1]; exact o12
    have v9 : bX ((k : Int) + 1) 9 = false := by rw [hbX, t1]; exact o9
    have v22 : bX ((k : Int) + 1) 22 = false := by rw [hbX, t1]; exact o22
    have v17 : bX ((k : Int) + 1) 17 = false := by rw [hbX, t1]; exact o17
    cases e10 : Mc.bareB c (Mc.marks code) (k + 2) 10 with
    | false =>
      have v10 : bX ((k : Int) + 2) 10 = false := by rw [hbX, t2]; exact e10
      first | (rw [e1] at s1; exact absurd s1 (by decide)) | (rw [e12] at s12; exact absurd s12 (by decide)) | (rw [e9] at s9; exact absurd s9 (by decide)) | (rw [e22] at s22; exact absurd s22 (by decide))
    | true =>
      have v10 : bX ((k : Int) + 2) 10 = true := by rw [hbX, t2]; exact e10
      have hk2 : k + 2 < code.length := by have := (Mc.bare_of e10).1; rw [HLen.out] at this; exact this
      have hk2' : (k : Int) + 2 < (code.length : Int) := by omega
      have q2 := (HF.out (k + 2) hk2).2.2.1
      cases ef : Mc.foldsB (c.getD (k + 2) Mc.dI).a with
      | false =>
        have HFo : Hid (∀ W, Calls Try.prog 21 #[.int .i64 (c.getD (k + 2) Mc.dI).a] W fun e w' => e = .returned (.bool false) ∧ w' = W) := fun W => by rw [← ef]; exact rfolds_any _ W
        first | (rw [e1] at s1; exact absurd s1 (by decide)) | (rw [e12] at s12; exact absurd s12 (by decide)) | (rw [e9] at s9; exact absurd s9 (by decide)) | (rw [e22] at s22; exact absurd s22 (by decide))
      | true =>
        have HFo : Hid (∀ W, Calls Try.prog 21 #[.int .i64 (c.getD (k + 2) Mc.dI).a] W fun e w' => e = .returned (.bool true) ∧ w' = W) := fun W => by rw [← ef]; exact rfolds_any _ W
        have HMa : Hid (∀ W, Calls Try.prog 22 #[.int .i64 (c.getD (k + 2) Mc.dI).a, .int .i64 (c.getD k Mc.dI).a, .int .i64 (c.getD (k + 1) Mc.dI).a] W fun e w' => e = .returned (.tuple #[.int .i64 (Mc.known (c.getD (k + 2) Mc.dI).a (c.getD k Mc.dI).a (c.getD (k + 1) Mc.dI).a), .bool true]) ∧ w' = W) := fun W => rmath_any _ _ _ W ef
        first | (rw [e1] at s1; exact absurd s1 (by decide)) | (rw [e12] at s12; exact absurd s12 (by decide)) | (rw [e9] at s9; exact absurd s9 (by decide)) | (rw [e22] at s22; exact absurd s22 (by decide))
  | false =>
    have v1 : bX ((k : Int) + 1) 1 = false := by rw [hbX, t1]; exact e1
    cases e12 : Mc.bareB c (Mc.marks code) (k + 1) 12 with
    | true =>
      have v12 : bX ((k : Int) + 1) 12 = true := by rw [hbX, t1]; exact e12
      have hk1 : k + 1 < code.length := by have := (Mc.bare_of e12).1; rw [HLen.out] at this; exact this
      have hk1' : (k : Int) + 1 < (code.length : Int) := by omega
      by_cases hz : (c.getD k Mc.dI).a = 0
      · first | (rw [e1] at s1; exact absurd s1 (by decide)) | (rw [e12] at s12; exact absurd s12 (by decide)) | (rw [e9] at s9; exact absurd s9 (by decide)) | (rw [e22] at s22; exact absurd s22 (by decide))
      · first | (rw [e1] at s1; exact absurd s1 (by decide)) | (rw [e12] at s12; exact absurd s12 (by decide)) | (rw [e9] at s9; exact absurd s9 (by decide)) | (rw [e22] at s22; exact absurd s22 (by decide))
    | false =>
      have v12 : bX ((k : Int) + 1) 12 = false := by rw [hbX, t1]; exact e12
      cases e9 : Mc.bareB c (Mc.marks code) (k + 1) 9 with
      | true =>
        have v9 : bX ((k : Int) + 1) 9 = true := by rw [hbX, t1]; exact e9
        have hk1 : k + 1 < code.length := by have := (Mc.bare_of e9).1; rw [HLen.out] at this; exact this
        have hk1' : (k : Int) + 1 < (code.length : Int) := by omega
        first | (rw [e1] at s1; exact absurd s1 (by decide)) | (rw [e12] at s12; exact absurd s12 (by decide)) | (rw [e9] at s9; exact absurd s9 (by decide)) | (rw [e22] at s22; exact absurd s22 (by decide))
      | false =>
        have v9 : bX ((k : Int) + 1) 9 = false := by rw [hbX, t1]; exact e9
        cases e22 : Mc.bareB c (Mc.marks code) (k + 1) 22 with
        | true =>
          have v22 : bX ((k : Int) + 1) 22 = true := by rw [hbX, t1]; exact e22
          have hk1 : k + 1 < code.length := by have := (Mc.bare_of e22).1; rw [HLen.out] at this; exact this
          have hk1' : (k : Int) + 1 < (code.length : Int) := by omega
          have HEq : Hid (Mc.lookAt code c (Mc.marks code) k = (c.set k Mc.nopI).set (k + 1) (Mc.pshI (Mc.truth ((c.getD k Mc.dI).a != 0)))) := HPu.out.trans (by unfold Mc.folded; rw [if_neg (by rw [e1]; simp), if_neg (by rw [e12]; decide), if_neg (by rw [e9]; decide), if_pos e22]; rfl)
          obtain ⟨⟨fa0, fa1, fa2⟩, ca0, ca1, ca2⟩ := HF.out k hlt
          obtain ⟨⟨fb0, fb1, fb2⟩, cb0, cb1, cb2⟩ := HF.out (k + 1) hk1
          obtain ⟨nn0, nn1, nn2⟩ := HNop.out
          clear hop hiX hbX HPu t1 t2
          clear e1 e12 e9 e22
          generalize (c.getD k Mc.dI).a = an at *
          go_wp2_with (first | (go_at_call 19; refine (HIs.out _).mono ?_; rintro e w' ⟨rfl, rfl⟩) | (go_at_call 20; refine (HBr.out _ _ (by omega)).mono ?_; rintro e w' ⟨rfl, rfl⟩))
          have hk0 : (0 : Int) ≤ (k : Int) := by omega
          have hk0' : (k : Int) < (code.length : Int) := by omega
          have hk10 : (0 : Int) ≤ (k : Int) + 1 := by omega
          have hw1 : IntKind.i64.wrap ((k : Int) + 1) = (k : Int) + 1 := by rw [IntKind.wrap_i64]; omega
          have ne00 : ¬ k * 3 = (k + 1) * 3 := by omega
          have ne01 : ¬ k * 3 = (k + 1) * 3 + 1 := by omega
          have ne02 : ¬ k * 3 = (k + 1) * 3 + 2 := by omega
          have ne10 : ¬ k * 3 + 1 = (k + 1) * 3 := by omega
          have ne11 : ¬ k * 3 + 1 = (k + 1) * 3 + 1 := by omega
          have ne12 : ¬ k * 3 + 1 = (k + 1) * 3 + 2 := by omega
          have ne20 : ¬ k * 3 + 2 = (k + 1) * 3 := by omega
          have ne21 : ¬ k * 3 + 2 = (k + 1) * 3 + 1 := by omega
          have ne22 : ¬ k * 3 + 2 = (k + 1) * 3 + 2 := by omega
          have en00 : ¬ (k + 1) * 3 = k * 3 := by omega
          have en01 : ¬ (k + 1) * 3 + 1 = k * 3 := by omega
          have en02 : ¬ (k + 1) * 3 + 2 = k * 3 := by omega
          have en10 : ¬ (k + 1) * 3 = k * 3 + 1 := by omega
          have en11 : ¬ (k + 1) * 3 + 1 = k * 3 + 1 := by omega
          have en12 : ¬ (k + 1) * 3 + 2 = k * 3 + 1 := by omega
          have en20 : ¬ (k + 1) * 3 = k * 3 + 2 := by omega
          have en21 : ¬ (k + 1) * 3 + 1 = k * 3 + 2 := by omega
          have en22 : ¬ (k + 1) * 3 + 2 = k * 3 + 2 := by omega
          refine wp_region_held_drew (S := fun W => W.cell? ⟨cb, 0, none⟩ = some (.slice (some ⟨g, 0, none⟩) code.length gc) ∧ W.cell? ⟨nb, 0, none⟩ = some (.int .i64 21) ∧ W.cell? ⟨nb, 1, none⟩ = some (.int .i64 0) ∧ W.cell? ⟨nb, 2, none⟩ = some (.int .i64 0)) (by kernel_rfl) ⟨bc, nn0, nn1, nn2⟩ (fun hHeld => ?_)
          refine wpAnyH_take (i := 0) (v := ?vv0) rfl (by kernel_rfl) (by kernel_rfl) (by kernel_rfl) (fun _ _ _ h => HQ.out _ _ _ _ _ h) (Or.inl ⟨by rfl, ?hy0⟩) hHeld ?rest0
          case hy0 => (intro w hSw; (try dsimp only at hSw); go_simp; (try with_reducible rfl))
          refine wpAnyH_take (i := 1) (v := ?vv1) rfl (by kernel_rfl) (by kernel_rfl) (by kernel_rfl) (fun _ _ _ h => HQ.out _ _ _ _ _ h) (Or.inl ⟨by rfl, ?hy1⟩) hHeld ?rest1
          case hy1 => (intro w hSw; (try dsimp only at hSw); go_simp; (try with_reducible rfl))
          refine wpAnyH_take (i := 2) (v := ?vv2) rfl (by kernel_rfl) (by kernel_rfl) (by kernel_rfl) (fun _ _ _ h => HQ.out _ _ _ _ _ h) (Or.inl ⟨by rfl, ?hy2⟩) hHeld ?rest2
          case hy2 => (intro w hSw; (try dsimp only at hSw); go_simp; (try with_reducible rfl))
          refine wpAnyH_take (i := 3) (v := ?vv3) rfl (by kernel_rfl) (by kernel_rfl) (by kernel_rfl) (fun _ _ _ h => HQ.out _ _ _ _ _ h) (Or.inl ⟨by rfl, ?hy3⟩) hHeld ?rest3
          case hy3 => (intro w hSw; (try dsimp only at hSw); go_simp; (try with_reducible rfl))
          refine wpAnyH_take (i := 4) (v := ?vv4) rfl (by kernel_rfl) (by kernel_rfl) (by kernel_rfl) (fun _ _ _ h => HQ.out _ _ _ _ _ h) (Or.inl ⟨by rfl, ?hy4⟩) hHeld ?rest4
          case hy4 => (intro w hSw; (try dsimp only at hSw); go_simp; (try with_reducible rfl))
          refine wpAnyH_take (i := 5) (v := ?vv5) rfl (by kernel_rfl) (by kernel_rfl) (by kernel_rfl) (fun _ _ _ h => HQ.out _ _ _ _ _ h) (Or.inl ⟨by rfl, ?hy5⟩) hHeld ?rest5
          case hy5 => (intro w hSw; (try dsimp only at hSw); go_simp; (try with_reducible rfl))
          refine wpAnyH_take (i := 6) (v := ?vv6) rfl (by kernel_rfl) (by kernel_rfl) (by kernel_rfl) (fun _ _ _ h => HQ.out _ _ _ _ _ h) (Or.inl ⟨by rfl, ?hy6⟩) hHeld ?rest6
          case hy6 => (intro w hSw; (try dsimp only at hSw); go_simp; (try with_reducible rfl))
          refine wpAnyH_take (i := 7) (v := ?vv7) rfl (by kernel_rfl) (by kernel_rfl) (by kernel_rfl) (fun _ _ _ h => HQ.out _ _ _ _ _ h) (Or.inl ⟨by rfl, ?hy7⟩) hHeld ?rest7
          case hy7 => (intro w hSw; (try dsimp only at hSw); go_simp; (try with_reducible rfl))
          refine wpAnyH_take (i := 8) (v := ?vv8) rfl (by kernel_rfl) (by kernel_rfl) (by kernel_rfl) (fun _ _ _ h => HQ.out _ _ _ _ _ h) (Or.inl ⟨by rfl, ?hy8⟩) hHeld ?rest8
          case hy8 => (intro w hSw; (try dsimp only at hSw); go_simp; (try with_reducible rfl))
          refine wpAnyH_take (i := 9) (v := ?vv9) rfl (by kernel_rfl) (by kernel_rfl) (by kernel_rfl) (fun _ _ _ h => HQ.out _ _ _ _ _ h) (Or.inl ⟨by rfl, ?hy9⟩) hHeld ?rest9
          case hy9 => (intro w hSw; (try dsimp only at hSw); go_simp; (try with_reducible rfl))
          refine wpAnyH_ready (rs := [10]) (by kernel_rfl) (by simp) ?_
          refine AllReadyH.cons rfl (fun K hK => ?_) AllReadyH.nil
          go_simp
          refine hK.out _ _ hHeld (fun hHeld => ?_)
          clear hK K
          refine wpAnyH_take (i := 11) (v := ?vv11) rfl (by kernel_rfl) (by kernel_rfl) (by kernel_rfl) (fun _ _ _ h => HQ.out _ _ _ _ _ h) (Or.inl ⟨by rfl, ?hy11⟩) hHeld ?rest11
          case hy11 => (intro w hSw; (try dsimp only at hSw); go_simp; (try with_reducible rfl))
          refine wpAnyH_ready (rs := [12]) (by kernel_rfl) (by simp) ?_
          refine AllReadyH.cons rfl (fun K hK => ?_) AllReadyH.nil
          go_simp
          go_wp2_with (go_at_call 23; refine (HTr.out _ _).mono ?_; rintro e w' ⟨rfl, rfl⟩)
          refine hK.out _ _ hHeld (fun hHeld => ?_)
          clear hK K
          refine wpAnyH_take (i := 13) (v := ?vv13) rfl (by kernel_rfl) (by kernel_rfl) (by kernel_rfl) (fun _ _ _ h => HQ.out _ _ _ _ _ h) (Or.inl ⟨by rfl, ?hy13⟩) hHeld ?rest13
          case hy13 => (intro w hSw; (try dsimp only at hSw); go_simp; (try with_reducible rfl))
          refine wpAnyH_take (i := 14) (v := ?vv14) rfl (by kernel_rfl) (by kernel_rfl) (by kernel_rfl) (fun _ _ _ h => HQ.out _ _ _ _ _ h) (Or.inl ⟨by rfl, ?hy14⟩) hHeld ?rest14
          case hy14 => (intro w hSw; (try dsimp only at hSw); go_simp; (try with_reducible rfl))
          refine wpAnyH_ready (rs := [15]) (by kernel_rfl) (by simp) ?_
          refine AllReadyH.cons rfl (fun K hK => ?_) AllReadyH.nil
          go_simp
          refine hK.out _ _ ?_ (fun hHeld => ?_)
          · (try dsimp only); go_keep
          clear hK K
          refine wpAnyH_take (i := 16) (v := ?vv16) rfl (by kernel_rfl) (by kernel_rfl) (by kernel_rfl) (fun _ _ _ h => HQ.out _ _ _ _ _ h) (Or.inl ⟨by rfl, ?hy16⟩) hHeld ?rest16
          case hy16 => (intro w hSw; (try dsimp only at hSw); go_simp; (try with_reducible rfl))
          refine wpAnyH_ready (rs := [17]) (by kernel_rfl) (by simp) ?_
          refine AllReadyH.cons rfl (fun K hK => ?_) AllReadyH.nil
          go_simp
          refine hK.out _ _ ?_ (fun hHeld => ?_)
          · (try dsimp only); go_keep
          clear hK K
          refine wpAnyH_done (by kernel_rfl) ?_ _
          all_goals
            go_wp2_with fail
            refine HR.out _ _ _ _ _ _ _ _ _ _ _ _ _ _ _ _ _ _ _ _ _ _ _ _ _ _ _ _ _ _ _ _ _ _ _ _ _ _ _ _ _ _ _ _ _ _ _ _ _ _ _ _ _ _ _ _ _ _ _ _ _ _ _ _ _ _ _ _ _ _ _ _ _ _ _ _ _ _ _ _ _ _ _ _ _ _ _ _ _ _ _ _ _ _ _ _ _ _ _ _ _ _ _ _ _ _ _ _ _ _ _ _ _ _ _ _ _ _ _ _ _ _ _ _ _ _ _ _ _ _ _ _ _ _ _ _ _ _ _ _ _ _ _ _ _ _ _ _ _ _ _ _ _ _ _ _ _ _ _ _ _ _ _ _ _ _ _ _ _ _ _ _ _ _ _ _ _ _ _ _ _ _ _ _ _ _ _ _ _ _ _ _ _ _ _ _ _ _ _ _ _ _ _ _ _ _ _ _ _ _ _ _ _ _ _ _ (by go_num) ?_
            rw [HEq.out]
            have hfin := ((HPk.out.put k hlt 21 0 0).put (k + 1) hk1 1 (Mc.truth (an != 0)) 0).drew
            exact hfin
        | false =>
          have v22 : bX ((k : Int) + 1) 22 = false := by rw [hbX, t1]; exact e22
          cases e17 : Mc.bareB c (Mc.marks code) (k + 1) 17 with
          | true =>
            have v17 : bX ((k : Int) + 1) 17 = true := by rw [hbX, t1]; exact e17
            have hk1 : k + 1 < code.length := by have := (Mc.bare_of e17).1; rw [HLen.out] at this; exact this
            have hk1' : (k : Int) + 1 < (code.length : Int) := by omega
            first | (rw [e1] at s1; exact absurd s1 (by decide)) | (rw [e12] at s12; exact absurd s12 (by decide)) | (rw [e9] at s9; exact absurd s9 (by decide)) | (rw [e22] at s22; exact absurd s22 (by decide))
          | false =>
            have v17 : bX ((k : Int) + 1) 17 = false := by rw [hbX, t1]; exact e17
            first | (rw [e1] at s1; exact absurd s1 (by decide)) | (rw [e12] at s12; exact absurd s12 (by decide)) | (rw [e9] at s9; exact absurd s9 (by decide)) | (rw [e22] at s22; exact absurd s22 (by decide))

end Go.Proofs.Ytpahhhhfhnpmjaa
