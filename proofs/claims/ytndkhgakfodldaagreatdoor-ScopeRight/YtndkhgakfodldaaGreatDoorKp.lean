/-
  A face is right: without the program. ScopeRight's call.
-/
import Derived.Test.YtndkhgakfodldaaGreatDoorKm
import Derived.Test.YtndkhgakfodldaaGreatDoorPo
import Derived.Test.YtndkhgakfodldaaGreatDoorUs
import Derived.Deep.QuietTactic
import Derived.BigQuiet
namespace Go.Proofs.YtndkhgakfodldaaGreatDoor
open Go.RowKit Go.Maps Go.WideMaps
set_option linter.unusedSimpArgs false
set_option linter.unusedVariables false
set_option maxRecDepth 100000

theorem dup_nodup : ∀ l : List (List UInt8), Fx.dupB l = false ↔ l.Nodup := by
  apply Fx.list_snoc_ind
  · exact ⟨fun _ => .nil, fun _ => rfl⟩
  · intro l s ih
    rw [Fx.dup_snoc, Bool.or_eq_false_iff, ih, decide_eq_false_iff_not, List.nodup_append]
    constructor
    · rintro ⟨h1, h2⟩
      refine ⟨h1, by simp, fun a ha b hb e => ?_⟩
      rw [List.mem_singleton.1 hb] at e
      exact h2 (e ▸ ha)
    · rintro ⟨h1, _, h2⟩
      exact ⟨h1, fun hs => h2 s hs s (by simp) rfl⟩
theorem pick_sub : ∀ (bs : List Bool) (l : List It), (pick bs l).Sublist l
  | [], l => by simp [pick]
  | _ :: _, [] => by simp [pick]
  | b :: bs, x :: l => by
    have ih := pick_sub bs l
    unfold pick at ih ⊢
    rw [List.zip_cons_cons, List.filterMap_cons]
    cases b with
    | false => exact ih.cons x
    | true => exact ih.cons_cons x
theorem face_right {m : Mo} (h : chkM m = 0) : Fx.chkF ⟨m.name, shownIts m⟩ = 0 := by
  have he := chk_err h
  have ho := mo_ok he
  have hmp := many_parts he
  have hlo := lay_ok he
  have hdat := layD_bound m.decls 0 hlo.kinds
  have hsub := pick_sub (pubs m) (layItems m)
  have hlen : (shownIts m).length ≤ 16 := by
    have h1 := hsub.length_le
    have h2 := layItems_len m
    have := hlo.decls
    have := hlo.procs
    unfold shownIts
    omega
  have nm : ∀ s, nameOk s = true → Fx.nameOk s = true := fun s hs => by
    unfold nameOk at hs
    rw [Bool.and_eq_true] at hs
    exact hs.2
  refine Fx.chk_ok (by show ¬ 16 < (shownIts m).length; omega) (nm _ ho.name) ?_ ?_
  · have hd : Fx.dupB (Fx.namesOf (layItems m)) = false := by
      unfold chkM at h
      rw [if_neg (by simp [he])] at h
      cases hd : Fx.dupB (Fx.namesOf (layItems m)) with
      | false => rfl
      | true => rw [hd] at h; simp at h
    exact (dup_nodup _).2 (((dup_nodup _).1 hd).sublist (hsub.map _))
  · rw [List.all_eq_true]
    intro it hit
    have hit := hsub.subset hit
    obtain ⟨_, hits⟩ := layD_its m.decls 0 (Int.le_refl _) (fun d hd => (ho.decls d hd).2)
    unfold layItems at hit
    rcases List.mem_append.1 hit with h1 | h1
    · have hf := hits it h1
      have hnm : Fx.nameOk it.name = true ∧ (it.kind = 1 → it.at_ = 0) ∧ (it.kind = 2 → it.n = 0) := by
        have : ∀ (l : List De) (a : Int), (∀ d ∈ l, nameOk d.name = true ∧ sizeOk d = true) → ∀ x ∈ (layD a l).1, Fx.nameOk x.name = true ∧ (x.kind = 1 → x.at_ = 0) ∧ (x.kind = 2 → x.n = 0) := by
          intro l
          induction l with
          | nil => intro a _ x hx; cases hx
          | cons d r ih =>
            intro a hl x hx
            rcases List.mem_cons.1 hx with rfl | hx
            · have hd := hl d (by simp)
              refine ⟨nm _ hd.1, fun (e : d.kind = 1) => ?_, fun (e : d.kind = 2) => ?_⟩
              · show (if d.kind = 2 ∨ d.kind = 3 then a else 0) = 0
                rw [if_neg (by omega)]
              · have := hd.2
                unfold sizeOk at this
                rw [if_neg (by omega), if_neg (by omega)] at this
                exact of_decide_eq_true this
            · exact ih _ (fun y hy => hl y (by simp [hy])) x hx
        exact this m.decls 0 (fun d hd => ⟨(ho.decls d hd).1, (ho.decls d hd).2.1⟩) it h1
      have hk := hf.kind
      have hdl := hlo.decls
      unfold Fx.itemOk
      rw [hnm.1, Bool.true_and]
      unfold Fx.numOkB
      rcases (by omega : it.kind = 1 ∨ it.kind = 2 ∨ it.kind = 3) with e | e | e
      · have := hf.num e
        rw [if_pos e, decide_eq_true this.1, decide_eq_true this.2, decide_eq_true (hnm.2.1 e)]; rfl
      · have := hf.var e
        rw [if_neg (by omega), if_pos e, decide_eq_true (hnm.2.2 e), decide_eq_true this.1, decide_eq_true (by omega)]; rfl
      · have := hf.arr e
        rw [if_neg (by omega), if_neg (by omega), if_pos e, decide_eq_true this.1.1, decide_eq_true this.1.2, decide_eq_true this.2.1, decide_eq_true (by omega)]; rfl
    · obtain ⟨j, hj, rfl⟩ := prIts_mem _ _ _ h1
      have hp := ho.procs m.procs[j] (List.getElem_mem hj)
      have hq := hmp.2.2.2.1 m.procs[j] (List.getElem_mem hj)
      have := hmp.2.2.1
      show (Fx.nameOk m.procs[j].name && Fx.numOkB ⟨4, m.procs[j].params.length, ((0 + j : Nat) : Int), m.procs[j].name⟩) = true
      rw [nm _ hp.1, Bool.true_and]
      show (decide ((0 : Int) ≤ m.procs[j].params.length) && decide ((m.procs[j].params.length : Int) ≤ 3) && decide ((0 : Int) ≤ ((0 + j : Nat) : Int)) && decide (((0 + j : Nat) : Int) ≤ 320)) = true
      rw [decide_eq_true (by omega), decide_eq_true (by omega), decide_eq_true (by omega), decide_eq_true (by omega)]; rfl
end Go.Proofs.YtndkhgakfodldaaGreatDoor

namespace Go.Proofs.YtndkhgakfodldaaGreatDoor
open Go.RowKit Go.Maps Go.WideMaps
set_option linter.unusedSimpArgs false
set_option linter.unusedVariables false
set_option maxRecDepth 100000

def Begun (f : FuncId) : Prop := ∀ W : World, Calls Tryz.prog f #[] W fun e W' => e = .returned (.bool true) ∧ Below W.heap.size W W'
theorem resolve_err {m : Mo} {l : List Fc} (h : chkM m ≠ 0) : resolveM m l = .error (chkM m) := if_pos h
theorem resolve_ok {m : Mo} {l : List Fc} {u : Un} (h : resolveM m l = .ok u) : l.length = m.uses.length := by
  unfold resolveM at h
  split at h
  · cases h
  · split at h
    · cases h
    · rename_i h1; exact Classical.byContradiction fun h2 => h1 h2
/- A unit that was made, in a list of its own. -/
theorem unit_list {W : World} {lo : Nat} {u : Un} {x1 : Option Addr} {y1 : Nat} {x2 : Option Addr} {y2 : Nat} {x3 : Option Addr} {y3 : Nat} (hn : u.name.size ≤ maxLen) (hu : u.uses = []) (h : holdB u (numU []) (prtU []) = true)
    (e2 : EAt W (lo ≤ ·) x2 u.parts.length (ptsD u.parts)) (e3 : EAt W (lo ≤ ·) x3 u.main.length (acsD u.main)) (t : TypeId) :
    DAt (W.alloc (.cells #[.string u.name, .slice x1 u.uses.length y1, .int .i64 u.data, .slice x2 u.parts.length y2, .slice x3 u.main.length y3] t)) Tt (some ⟨W.heap.size, 0, none⟩) [u].length (unsD [u]) := by
  obtain ⟨f1, f2, f3, f4, f5, f6⟩ := unit_fit h hu
  have l1 := ptsD_len u.parts
  have l2 := acsD_len u.main
  have mv : Moves W (lo ≤ ·) (W.alloc (.cells #[.string u.name, .slice x1 u.uses.length y1, .int .i64 u.data, .slice x2 u.parts.length y2, .slice x3 u.main.length y3] t)) Tt := ⟨by simp, fun b hb _ => ⟨trivial, (al1 _ _).block b hb⟩⟩
  have d2 := (e2.toD (by omega) (by omega) f1).moves mv
  have d3 := (e3.toD (by omega) (by omega) f2).moves mv
  refine dat_blk (Blk.new W _ t) ?_ (by simp [unsD, Un.ds]) (by simp [unsD, Un.ds])
  show DVals _ Tt (Un.ds u ++ []) _
  rw [List.append_nil]
  unfold Un.ds
  refine .cons (dstr hn) (.cons ?_ (.cons (dint (wf_lit (by omega) (by omega))) (.cons d2.val (.cons d3.val .nil))))
  rw [hu]
  exact dnil
set_option maxHeartbeats 6400000 in
theorem ScopeRight_any (hSB : Begun 17) (m : Mo) (v : Value) (a1 : Option Addr) (c1 : Nat) (a2 : Option Addr) (c2 : Nat) (a3 : Option Addr) (c3 : Nat) (a4 : Option Addr) (c4 : Nat) (l : List Fc) (al : Option Addr) (cl : Nat) (w : World) (hM : MoAt w Tt m v a1 c1 a2 c2 a3 c3 a4 c4) (hF : DAt w Tt al l.length (fcsD l)) :
    Calls Tryz.prog 5 #[v, .slice al l.length cl] w fun e w' => e = .returned (.bool true) ∧ Below w.heap.size w w' := by
  obtain rfl := hM.val
  have HS := hid hSB
  have HM := hid hM
  have HF := hid hF
  have HC := hid (Face_any m _ a1 c1 a2 c2 a3 c3 a4 c4 (w.alloc (.cells #[.string m.name, .slice a1 m.uses.length c1, .slice a2 m.decls.length c2, .slice a3 m.procs.length c3, .slice a4 m.main.length c4] 27)) (hM.later (al1 _ _)))
  have hub := hM.uses.bound
  clear hSB hM hF
  go_enter Tryz.func5, Tryz.ntmps5
  go_wp2_with fail
  refine HC.out.mono ?_
  rintro e w1 ⟨hend, hb1⟩
  have HB1 := hid (thenB (al1 w _) hb1)
  have HX1 := hid ((hb1.block _ (by simp)).trans (heap_newP w (.cells #[.string m.name, .slice a1 m.uses.length c1, .slice a2 m.decls.length c2, .slice a3 m.procs.length c3, .slice a4 m.main.length c4] 27)))
  obtain ⟨q0, q1, q2, q3, q4, _⟩ := cellsOf5 HX1.out
  have qz := lt_of_heap HX1.out
  clear hb1 HC
  unfold faceEnd at hend
  rcases hend with ⟨hc, rfl⟩ | ⟨hc, af, cf, rfl, hE⟩
  · have HC2 := hid (fun W (hW : Below w1.heap.size w1 W) => Resolve_any m _ a1 c1 a2 c2 a3 c3 a4 c4 l al cl W (HM.out.later (thenB HB1.out hW)) (HF.out.later (thenB HB1.out hW)))
    rw [resolve_err hc] at HC2
    simp only [unitEnd] at HC2
    generalize chkM m = z at *
    go_wp2_with fail
    refine (HC2.out _ (al1 _ _)).mono ?_
    rintro e w2 ⟨⟨rfl, _⟩, hb2⟩
    have HB2 := hid (thenB HB1.out (thenB (al1 _ _) hb2))
    clear hb2 HC2 q0 q1 q2 q3 q4 qz
    go_wp2_with fail
    refine (HS.out _).mono ?_
    rintro e w3 ⟨rfl, hb3⟩
    have HB3 := hid (thenB HB2.out (thenB (al1 _ _) hb3))
    clear hb3
    go_wp2_with fail
    go_ret
    exact ⟨rfl, HB3.out⟩
  · obtain ⟨hI, hAF⟩ := items_at hE
    have HI := hid hI
    have HAF := hid hAF
    have HCk := hid (face_right hc)
    have HL16 : Hid ((shownIts m).length ≤ 16) := by
      show _ ≤ 16
      have := HCk.out
      unfold Fx.chkF at this
      split at this
      · cases this
      · rename_i h; simp only at h; omega
    have HC2 := hid (fun W (hW : Below w1.heap.size w1 W) => Resolve_any m _ a1 c1 a2 c2 a3 c3 a4 c4 l al cl W (HM.out.later (thenB HB1.out hW)) (HF.out.later (thenB HB1.out hW)))
    have HCc := hid (fun W (hW : Below w1.heap.size w1 W) => Fx.scopeCheck_any ⟨m.name, shownIts m⟩ af cf W (HI.out.later hW) (by show (shownIts m).length ≤ _; have := HL16.out; omega) HM.out.wna HAF.out)
    rw [HCk.out] at HCc
    clear hE hI hAF
    generalize hsh : shownIts m = sh at *
    go_wp2_with fail
    refine (HC2.out _ (al1 _ _)).mono ?_
    rintro e w2 ⟨hend, hb2⟩
    have HBa := hid (thenB (al1 w1 _) hb2)
    have HX2 := hid ((HBa.out.block _ (lt_of_heap HX1.out)).trans HX1.out)
    have HY2 := hid ((hb2.block _ (by simp)).trans (heap_newP w1 (.cells #[.string m.name, .slice af sh.length cf] 30)))
    clear hb2 HC2 q0 q1 q2 q3 q4 qz
    obtain ⟨q0, q1, q2, q3, q4, _⟩ := cellsOf5 HX2.out
    have qz := lt_of_heap HX2.out
    obtain ⟨r0, r1, _⟩ := cellsOf2 HY2.out
    have rz := lt_of_heap HY2.out
    cases hr : resolveM m l with
    | error c =>
      rw [hr] at hend
      obtain ⟨rfl, hcc⟩ := hend
      clear hr
      go_wp2_with fail
      refine (HCc.out _ (thenB HBa.out (al1 _ _))).mono ?_
      rintro e w3 ⟨rfl, hb3⟩
      have HBb := hid (thenB (al1 w2 _) hb3)
      have HX3 := hid ((HBb.out.block _ (lt_of_heap HX2.out)).trans HX2.out)
      have HY3 := hid ((HBb.out.block _ (lt_of_heap HY2.out)).trans HY2.out)
      clear hb3 q0 q1 q2 q3 q4 qz r0 r1 rz
      obtain ⟨q0, q1, q2, q3, q4, _⟩ := cellsOf5 HX3.out
      have qz := lt_of_heap HX3.out
      obtain ⟨r0, r1, _⟩ := cellsOf2 HY3.out
      have rz := lt_of_heap HY3.out
      go_wp2_with fail
      refine (HS.out _).mono ?_
      rintro e w4 ⟨rfl, hb4⟩
      have HB4 := hid (thenB HB1.out (thenB HBa.out (thenB HBb.out hb4)))
      clear hb4
      go_wp2_with fail
      go_ret
      exact ⟨rfl, HB4.out⟩
    | ok u =>
      rw [hr] at hend
      obtain ⟨x1, y1, x2, y2, x3, y3, rfl, hu1, hu2, hu3⟩ := hend
      have hll := resolve_ok hr
      have HR := hid hr
      have HU2 := hid hu2
      have HU3 := hid hu3
      clear hr hu1 hu2 hu3
      go_wp2_with fail
      refine (HCc.out _ (thenB HBa.out (al1 _ _))).mono ?_
      rintro e w3 ⟨rfl, hb3⟩
      have HBb := hid (thenB (al1 w2 _) hb3)
      have HX3 := hid ((HBb.out.block _ (lt_of_heap HX2.out)).trans HX2.out)
      have HY3 := hid ((HBb.out.block _ (lt_of_heap HY2.out)).trans HY2.out)
      have HZ3 := hid ((hb3.block _ (by simp)).trans (heap_newP w2 (.cells #[.string u.name, .slice x1 u.uses.length y1, .int .i64 u.data, .slice x2 u.parts.length y2, .slice x3 u.main.length y3] 42)))
      clear hb3 q0 q1 q2 q3 q4 qz r0 r1 rz
      obtain ⟨q0, q1, q2, q3, q4, _⟩ := cellsOf5 HX3.out
      have qz := lt_of_heap HX3.out
      obtain ⟨r0, r1, _⟩ := cellsOf2 HY3.out
      have rz := lt_of_heap HY3.out
      by_cases hu0 : m.uses.length = 0
      · have hl0 : l = [] := List.eq_nil_of_length_eq_zero (by omega)
        obtain ⟨hsem, hhold, hun⟩ := unit_right hu0 (by rw [← hl0]; exact HR.out)
        have hnm : u.name = m.name := by
          have := HR.out
          unfold resolveM at this
          split at this
          · cases this
          · split at this
            · cases this
            · split at this
              · unfold unitM at this
                obtain ⟨_, _, this⟩ := ok_bind this
                obtain ⟨_, _, this⟩ := ok_bind this
                rw [← Except.ok.inj this]
              · cases this
        have HSem := hid hsem
        have HHo := hid hhold
        have HUn := hid hun
        have HNm : Hid (u.name.size ≤ maxLen) := by show _ ≤ _; rw [hnm]; exact HM.out.wna
        clear hsem hhold hun hnm hl0 hll
        go_wp2_with fail
        refine (HS.out _).mono ?_
        rintro e w4 ⟨rfl, hb4⟩
        have HBc := hid hb4
        have HZ4 := hid ((hb4.block _ (lt_of_heap HZ3.out)).trans HZ3.out)
        clear hb4 q0 q1 q2 q3 q4 qz r0 r1 rz
        obtain ⟨z0, z1, z2, z3, z4, _⟩ := cellsOf5 HZ4.out
        have zz := lt_of_heap HZ4.out
        have HDat := hid (unit_list (x1 := x1) (y1 := y1) (y2 := y2) (y3 := y3) HNm.out HUn.out HHo.out (HU2.out.later (thenB HBb.out HBc.out)) (HU3.out.later (thenB HBb.out HBc.out)) 42)
        have HCs := hid (fun cap => semCheck_any [u] (some ⟨w4.heap.size, 0, none⟩) cap _ HDat.out (fun y hy => by rw [List.mem_singleton.1 hy, HUn.out]; simp))
        rw [HSem.out] at HCs
        go_wp2_with fail
        refine (HCs.out _).mono ?_
        rintro e w5 ⟨rfl, hb5⟩
        have HB5 := hid (thenB HB1.out (thenB HBa.out (thenB HBb.out (thenB HBc.out (thenB (al1 _ _) hb5)))))
        clear hb5
        go_wp2_with fail
        go_ret
        exact ⟨rfl, HB5.out⟩
      · have hu0' : 0 < m.uses.length := by omega
        clear hu0
        go_wp2_with fail
        refine (HS.out _).mono ?_
        rintro e w4 ⟨rfl, hb4⟩
        have HB4 := hid (thenB HB1.out (thenB HBa.out (thenB HBb.out hb4)))
        clear hb4
        go_wp2_with fail
        go_ret
        exact ⟨rfl, HB4.out⟩
end Go.Proofs.YtndkhgakfodldaaGreatDoor

namespace Go.Proofs.YtndkhgakfodldaaGreatDoor
open Go.RowKit Go.Maps Go.WideMaps
set_option linter.unusedSimpArgs false
set_option maxRecDepth 100000

def cntF : Fc := ⟨⟨#[99, 110, 116]⟩, [⟨1, 3, 0, ⟨#[107]⟩⟩, ⟨2, 0, 0, ⟨#[115, 117, 109]⟩⟩, ⟨3, 4, 1, ⟨#[116]⟩⟩, ⟨4, 1, 0, ⟨#[100, 111, 119, 110]⟩⟩]⟩
theorem cntF_ok : Fx.chkF cntF = 0 := by kernel_rfl
theorem cnt_chk : chkM cntMo = 0 := by kernel_rfl
theorem cnt_shown : shownIts cntMo = cntF.items := by kernel_rfl
def okOr (r : Except Int Un) : Un := match r with | .ok u => u | .error _ => ⟨⟨#[]⟩, [], 0, [], []⟩
def cntUn : Un := okOr (resolveM cntMo [])
def topUn : Un := okOr (resolveM topMo [cntF])
theorem cnt_res : resolveM cntMo [] = .ok cntUn := by kernel_rfl
theorem top_res : resolveM topMo [cntF] = .ok topUn := by kernel_rfl
theorem top_res0 : resolveM topMo [] = .error 8 := by kernel_rfl
theorem cntUn_data : cntUn.data = 5 := by kernel_rfl
theorem cntUn_len : cntUn.parts.length = 1 ∧ cntUn.uses.length = 0 ∧ cntUn.main.length = 0 ∧ topUn.main.length = 3 ∧ topUn.uses.length = 1 ∧ topUn.parts.length = 0 := ⟨by kernel_rfl, by kernel_rfl, by kernel_rfl, by kernel_rfl, by kernel_rfl, by kernel_rfl⟩
theorem cnt_part : (ptsD cntUn.parts)[1]? = some (.int 1) := by kernel_rfl
theorem top_act : (acsD topUn.main)[1]? = some (.int 4) ∧ (acsD topUn.main)[2]? = some (.int 1) ∧ (acsD topUn.main)[3]? = some (.int 1) := ⟨by kernel_rfl, by kernel_rfl, by kernel_rfl⟩
/- A number in a list that lies there. -/
theorem EAt.num {w : World} {A : Nat → Prop} {a : Option Addr} {n : Nat} {ds : List D} (h : EAt w A a n ds) (hn : n ≠ 0) : ∃ b off, a = some ⟨b, off, none⟩ ∧ b < w.heap.size ∧ A b ∧ ∀ (j : Nat) (k : Int), ds[j]? = some (.int k) → w.cell? ⟨b, off + j, none⟩ = some (.int .i64 k) := by
  rcases h with h | ⟨b, off, cs, ha, hA, hb, hc, hx⟩
  · exact absurd h hn
  · refine ⟨b, off, ha, hb, hA, fun j k hj => ?_⟩
    obtain ⟨v, hv, hd⟩ := hx.get j _ hj
    rw [enum_of hd] at hv
    exact hc j _ hv
set_option maxHeartbeats 1600000 in
theorem counted_any (w : World) :
    Calls Tryz.prog 57 #[] w fun e w' => ∃ ad cap, e = .returned (.agg #[.string ⟨#[99, 110, 116]⟩, .slice ad 4 cap]) ∧ DAt w' Tt ad 4 (itsD cntF.items) ∧ Below w.heap.size w w' := by
  go_enter Tryz.func57, Tryz.ntmps57
  go_wp2_with fail
  obtain ⟨W, hW⟩ : ∃ W, W = allocsC w [(#[.string ⟨#[99, 110, 116]⟩, .slice (some ⟨w.heap.size + 1, 0, none⟩) 4 4], 30), (#[.int .i64 1, .int .i64 3, .int .i64 0, .string ⟨#[107]⟩, .int .i64 2, .int .i64 0, .int .i64 0, .string ⟨#[115, 117, 109]⟩, .int .i64 3, .int .i64 4, .int .i64 1, .string ⟨#[116]⟩, .int .i64 4, .int .i64 1, .int .i64 0, .string ⟨#[100, 111, 119, 110]⟩], 98)] := ⟨_, rfl⟩
  have hB : Below w.heap.size w W := by rw [hW]; exact below_allocsC _ _
  have hD : DAt W Tt (some ⟨w.heap.size + 1, 0, none⟩) 4 (itsD cntF.items) := by
    rw [hW]
    refine dat_blk (blk_allocsC w _ 1 _ _ rfl) ?_ (by decide) (by decide)
    exact .cons (dint rfl) (.cons (dint rfl) (.cons (dint rfl) (.cons (dstr (by decide)) (.cons (dint rfl) (.cons (dint rfl) (.cons (dint rfl) (.cons (dstr (by decide)) (.cons (dint rfl) (.cons (dint rfl) (.cons (dint rfl) (.cons (dstr (by decide)) (.cons (dint rfl) (.cons (dint rfl) (.cons (dint rfl) (.cons (dstr (by decide)) .nil)))))))))))))))
  refine bodyPost_ret (v := .agg #[.string ⟨#[99, 110, 116]⟩, .slice (some ⟨w.heap.size + 1, 0, none⟩) 4 4]) (by simp [results, Tryz.results57, go_sem]) rfl ⟨some ⟨w.heap.size + 1, 0, none⟩, 4, rfl, ?_, ?_⟩
  · rw [hW] at hD; exact hD
  · rw [hW] at hB; exact hB
set_option maxHeartbeats 1600000 in
theorem SameFaces_same (f : Fc) (a a' : Option Addr) (cap cap' : Nat) (w : World) (hA : Fx.ItemsAt w a f.items) (hA' : Fx.ItemsAt w a' f.items) (hl : f.items.length ≤ 1000) :
    Calls Tryz.prog 18 #[.agg #[.string f.name, .slice a f.items.length cap], .agg #[.string f.name, .slice a' f.items.length cap']] w fun e w' => e = .returned (.bool true) ∧ Below w.heap.size w w' := by
  obtain ⟨W0, hW0⟩ : ∃ W0, W0 = (w.alloc (.cells #[.string f.name, .slice a f.items.length cap] 30)).alloc (.cells #[.string f.name, .slice a' f.items.length cap'] 30) := ⟨_, rfl⟩
  have hB : Below w.heap.size w W0 := by rw [hW0]; exact bl2 _ _ _
  have hX : W0.heap[w.heap.size]? = some (.cells #[.string f.name, .slice a f.items.length cap] 30) := by rw [hW0]; exact heap_old (heap_newP _ _)
  have hY : W0.heap[w.heap.size + 1]? = some (.cells #[.string f.name, .slice a' f.items.length cap'] 30) := by
    rw [hW0]
    simpa using heap_newP (w.alloc (.cells #[.string f.name, .slice a f.items.length cap] 30)) (.cells #[.string f.name, .slice a' f.items.length cap'] 30)
  have HI := hid (hA.later hB)
  have HI' := hid (hA'.later hB)
  have HB := hid hB
  have HW := hid hW0
  obtain ⟨x0, x1, _⟩ := cellsOf2 hX
  obtain ⟨y0, y1, _⟩ := cellsOf2 hY
  have hYlt := lt_of_heap hY
  clear hA hA' hB hW0 hX hY
  go_enter Tryz.func18, Tryz.ntmps18
  go_wp2_with fail
  rw [← HW.out]
  clear HW
  go_wp2_with fail
  have HX0 := hid x1
  have HY0 := hid y1
  have hz0 : w.heap.size + 1 < W0.heap.size := hYlt
  go_loopw [5] (fun i wr => ∃ k : Nat, k ≤ f.items.length ∧ i = .int .i64 k ∧ Below W0.heap.size W0 wr) (fun i _ => f.items.length - (intOf i).toNat)
  case atStart => exact ⟨0, Nat.zero_le _, rfl, Below.refl _ _⟩
  case round =>
    obtain ⟨k, hk, rfl, hb⟩ := hrel
    have HBw := hid hb
    have x2 : wr.cell? ⟨w.heap.size, 1, none⟩ = some (.slice a f.items.length cap) := (hb.cell (p := ⟨w.heap.size, 1, none⟩) (by show w.heap.size < _; omega)).trans HX0.out
    have y2 : wr.cell? ⟨w.heap.size + 1, 1, none⟩ = some (.slice a' f.items.length cap') := (hb.cell (p := ⟨w.heap.size + 1, 1, none⟩) (by show w.heap.size + 1 < _; omega)).trans HY0.out
    by_cases hlt : k < f.items.length
    · obtain ⟨b, off, rfl, hbl, c0, c1, c2, c3⟩ := (HI.out.later hb).place hlt
      obtain ⟨b', off', rfl, hbl', d0, d1, d2, d3⟩ := (HI'.out.later hb).place hlt
      clear hb x0 x1 y0 y1
      generalize f.items[k] = it at *
      obtain ⟨kd, nn, att, xs⟩ := it
      simp only at c0 c1 c2 c3 d0 d1 d2 d3
      go_wp2_with (go_quiet (fail))
      go_roundw
      case rel => exact ⟨k + 1, by omega, by go_num, HBw.out.os, HBw.out.tape, HBw.out.output, HBw.out.size, HBw.out.block⟩
      case measure => simp [intOf]; omega
    · obtain rfl : k = f.items.length := by omega
      have HBf := hid (HB.out.trans (hb.mono HB.out.size))
      clear hb
      go_wp2_with fail
      go_returns
      exact ⟨rfl, HBf.out⟩
/- What the calls of the law's first look answer. -/
theorem face_cnt {w : World} {v : Value} {a1 a2 a3 a4 : Option Addr} {c1 c2 c3 c4 : Nat} (hM : MoAt w Tt cntMo v a1 c1 a2 c2 a3 c3 a4 c4) :
    Calls Tryz.prog 15 #[v] w fun e w' => ∃ a cap, e = .returned (.tuple #[.agg #[.string ⟨#[99, 110, 116]⟩, .slice a 4 cap], .int .i64 0]) ∧ (Fx.ItemsAt w' a cntF.items ∧ Fx.AllFit cntF.items) ∧ Below w.heap.size w w' :=
  (Face_any cntMo v a1 c1 a2 c2 a3 c3 a4 c4 w hM).mono fun e w' ⟨h, hb⟩ => by
    rcases h with ⟨h, _⟩ | ⟨_, a, cap, he, hE⟩
    · exact absurd cnt_chk h
    · rw [cnt_shown] at he hE
      exact ⟨a, cap, he, items_at hE, hb⟩
theorem res_cnt {w : World} {v : Value} {a1 a2 a3 a4 : Option Addr} {c1 c2 c3 c4 : Nat} (hM : MoAt w Tt cntMo v a1 c1 a2 c2 a3 c3 a4 c4) :
    Calls Tryz.prog 21 #[v, .slice none 0 0] w fun e w' => ∃ s x1 n1 y1 b2 o2 y2 x3 n3 y3, e = .returned (.tuple #[.agg #[.string s, .slice x1 n1 y1, .int .i64 5, .slice (some ⟨b2, o2, none⟩) 1 y2, .slice x3 n3 y3], .int .i64 0]) ∧ (b2 < w'.heap.size ∧ w'.cell? ⟨b2, o2 + 1, none⟩ = some (.int .i64 1)) ∧ Below w.heap.size w w' :=
  (Resolve_any cntMo v a1 c1 a2 c2 a3 c3 a4 c4 [] none 0 w hM ⟨Nat.le_refl _, Nat.zero_le _, Or.inl rfl⟩).mono fun e w' ⟨h, hb⟩ => by
    rw [cnt_res] at h
    obtain ⟨x1, y1, x2, y2, x3, y3, he, _, h2, _⟩ := h
    rw [cntUn_len.1] at h2 he
    obtain ⟨b, off, rfl, hlt, _, hc⟩ := h2.num (by decide)
    rw [cntUn_data] at he
    exact ⟨_, x1, _, y1, b, off, y2, x3, _, y3, he, ⟨hlt, hc 1 1 cnt_part⟩, hb⟩
theorem res_top0 {w : World} {v : Value} {a1 a2 a3 a4 : Option Addr} {c1 c2 c3 c4 : Nat} (hM : MoAt w Tt topMo v a1 c1 a2 c2 a3 c3 a4 c4) :
    Calls Tryz.prog 21 #[v, .slice none 0 0] w fun e w' => e = .returned (.tuple #[.agg #[.string ⟨#[]⟩, .slice none 0 0, .int .i64 0, .slice none 0 0, .slice none 0 0], .int .i64 8]) ∧ Below w.heap.size w w' :=
  (Resolve_any topMo v a1 c1 a2 c2 a3 c3 a4 c4 [] none 0 w hM ⟨Nat.le_refl _, Nat.zero_le _, Or.inl rfl⟩).mono fun e w' ⟨h, hb⟩ => by
    rw [top_res0] at h
    exact ⟨h.1, hb⟩
theorem parse_top (w : World) : Calls Tryz.prog 55 #[.string topS] w fun e w' => ∃ v a1 c1 a2 c2 a3 c3 a4 c4, e = .returned (.tuple #[v, .int .i64 0]) ∧ MoAt w' Tt topMo v a1 c1 a2 c2 a3 c3 a4 c4 ∧ Below w.heap.size w w' :=
  (Parse_any topS w (by decide)).mono fun e w' ⟨h, hb⟩ => by
    rcases h with ⟨h, _⟩ | ⟨m, v, a1, c1, a2, c2, a3, c3, a4, c4, hp, _, he, hM⟩
    · rw [top_pars] at h; cases h
    · rw [top_pars] at hp
      obtain rfl := Option.some.inj hp
      exact ⟨v, a1, c1, a2, c2, a3, c3, a4, c4, he, hM, hb⟩
end Go.Proofs.YtndkhgakfodldaaGreatDoor
