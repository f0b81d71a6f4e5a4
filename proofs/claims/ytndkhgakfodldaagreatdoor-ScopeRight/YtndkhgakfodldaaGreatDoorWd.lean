/-
  The sample module as it lies in memory.
-/
import Derived.Test.YtndkhgakfodldaaGreatDoorPo
import Derived.Test.YtndkhgakfodldaaGreatDoorKo
namespace Go.Proofs.YtndkhgakfodldaaGreatDoor
open Go.RowKit
set_option maxRecDepth 100000

def allocsC (w : World) : List (Array Value × TypeId) → World
  | [] => w
  | x :: r => allocsC (w.alloc (.cells x.1 x.2)) r
theorem below_allocsC : ∀ (l : List (Array Value × TypeId)) (w : World), Below w.heap.size w (allocsC w l)
  | [], _ => Below.refl _ _
  | _ :: r, w => thenB (al1 w _) (below_allocsC r _)
theorem blk_allocsC : ∀ (w : World) (l : List (Array Value × TypeId)) (i : Nat) (cs : Array Value) (t : TypeId), l[i]? = some (cs, t) → Blk (allocsC w l) (w.heap.size + i) cs.toList
  | w, [], i, cs, t, h => by simp at h
  | w, x :: r, 0, cs, t, h => by
    simp at h
    subst h
    exact (Blk.new w cs t).later (below_allocsC r _)
  | w, x :: r, i + 1, cs, t, h => by
    have := blk_allocsC (w.alloc (.cells x.1 x.2)) r i cs t (by simpa using h)
    rw [show w.heap.size + (i + 1) = (w.alloc (.cells x.1 x.2)).heap.size + i from by simp; omega]
    exact this
theorem dat_blk {w : World} {b n : Nat} {ds : List D} {cs : List Value} (h : Blk w b cs) (hd : DVals w Tt ds cs) (h1 : n ≤ ds.length) (h2 : ds.length ≤ 1000) : DAt w Tt (some ⟨b, 0, none⟩) n ds :=
  ⟨h1, by omega, Or.inr ⟨b, 0, cs, rfl, trivial, h.lt, fun j u hj => by rw [Nat.zero_add]; exact h.cell j u hj, hd⟩⟩
def cntObjs (n : Nat) : List (Array Value × TypeId) :=
  [(#[.string ⟨#[99, 110, 116]⟩, .slice none 0 0, .slice (some ⟨n + 1, 0, none⟩) 3 3, .slice (some ⟨n + 13, 0, none⟩) 1 1, .slice none 0 0], 27),
   (#[.int .i64 1, .string ⟨#[107]⟩, .bool true, .int .i64 3, .int .i64 2, .string ⟨#[115, 117, 109]⟩, .bool true, .int .i64 0, .int .i64 3, .string ⟨#[116]⟩, .bool true, .int .i64 4], 170),
   (#[.string ⟨#[110]⟩], 9),
   (#[.string ⟨#[105]⟩], 9),
   (#[.int .i64 3, .int .i64 0, .string ⟨#[]⟩, .string ⟨#[110]⟩, .slice none 0 0], 174),
   (#[.int .i64 3, .int .i64 0, .string ⟨#[]⟩, .string ⟨#[105]⟩, .slice none 0 0], 174),
   (#[.int .i64 3, .int .i64 0, .string ⟨#[]⟩, .string ⟨#[115, 117, 109]⟩, .slice none 0 0, .int .i64 3, .int .i64 0, .string ⟨#[]⟩, .string ⟨#[105]⟩, .slice none 0 0], 174),
   (#[.int .i64 9, .int .i64 0, .string ⟨#[]⟩, .string ⟨#[]⟩, .slice (some ⟨n + 6, 0, none⟩) 2 2], 174),
   (#[.int .i64 3, .int .i64 0, .string ⟨#[]⟩, .string ⟨#[105]⟩, .slice none 0 0, .int .i64 1, .int .i64 1, .string ⟨#[]⟩, .string ⟨#[]⟩, .slice none 0 0], 174),
   (#[.int .i64 10, .int .i64 0, .string ⟨#[]⟩, .string ⟨#[]⟩, .slice (some ⟨n + 8, 0, none⟩) 2 2], 174),
   (#[.int .i64 1, .string ⟨#[]⟩, .string ⟨#[115, 117, 109]⟩, .slice (some ⟨n + 7, 0, none⟩) 1 1, .slice none 0 0, .slice none 0 0, .int .i64 1, .string ⟨#[]⟩, .string ⟨#[105]⟩, .slice (some ⟨n + 9, 0, none⟩) 1 1, .slice none 0 0, .slice none 0 0], 176),
   (#[.int .i64 3, .int .i64 0, .string ⟨#[]⟩, .string ⟨#[115, 117, 109]⟩, .slice none 0 0], 174),
   (#[.int .i64 1, .string ⟨#[]⟩, .string ⟨#[105]⟩, .slice (some ⟨n + 4, 0, none⟩) 1 1, .slice none 0 0, .slice none 0 0, .int .i64 5, .string ⟨#[]⟩, .string ⟨#[]⟩, .slice (some ⟨n + 5, 0, none⟩) 1 1, .slice (some ⟨n + 10, 0, none⟩) 2 2, .slice none 0 0, .int .i64 6, .string ⟨#[]⟩, .string ⟨#[]⟩, .slice (some ⟨n + 11, 0, none⟩) 1 1, .slice none 0 0, .slice none 0 0], 176),
   (#[.string ⟨#[100, 111, 119, 110]⟩, .bool true, .slice (some ⟨n + 2, 0, none⟩) 1 1, .slice (some ⟨n + 3, 0, none⟩) 1 1, .slice (some ⟨n + 12, 0, none⟩) 3 3], 118)]
def cntBody : List St := (cntMo.procs.map Pr.body).flatten
theorem cnt_at (w : World) : MoAt (allocsC w (cntObjs w.heap.size)) Tt cntMo (.agg #[.string ⟨#[99, 110, 116]⟩, .slice none 0 0, .slice (some ⟨w.heap.size + 1, 0, none⟩) 3 3, .slice (some ⟨w.heap.size + 13, 0, none⟩) 1 1, .slice none 0 0]) none 0 (some ⟨w.heap.size + 1, 0, none⟩) 3 (some ⟨w.heap.size + 13, 0, none⟩) 1 none 0 := by
  have d1 : DAt (allocsC w (cntObjs w.heap.size)) Tt (some ⟨w.heap.size + 1, 0, none⟩) 3 (desD cntMo.decls) := by
    refine dat_blk (blk_allocsC w _ 1 _ _ rfl) ?_ (by decide) (by decide)
    exact .cons (dint rfl) (.cons (dstr (by decide)) (.cons (dbool) (.cons (dint rfl) (.cons (dint rfl) (.cons (dstr (by decide)) (.cons (dbool) (.cons (dint rfl) (.cons (dint rfl) (.cons (dstr (by decide)) (.cons (dbool) (.cons (dint rfl) (.nil))))))))))))
  have d2 : DAt (allocsC w (cntObjs w.heap.size)) Tt (some ⟨w.heap.size + 2, 0, none⟩) 1 (strsD [⟨#[110]⟩]) := by
    refine dat_blk (blk_allocsC w _ 2 _ _ rfl) ?_ (by decide) (by decide)
    exact .cons (dstr (by decide)) (.nil)
  have d3 : DAt (allocsC w (cntObjs w.heap.size)) Tt (some ⟨w.heap.size + 3, 0, none⟩) 1 (strsD [⟨#[105]⟩]) := by
    refine dat_blk (blk_allocsC w _ 3 _ _ rfl) ?_ (by decide) (by decide)
    exact .cons (dstr (by decide)) (.nil)
  have d4 : DAt (allocsC w (cntObjs w.heap.size)) Tt (some ⟨w.heap.size + 4, 0, none⟩) 1 (exsD [.mk 3 0 ⟨#[]⟩ ⟨#[110]⟩ []]) := by
    refine dat_blk (blk_allocsC w _ 4 _ _ rfl) ?_ (by decide) (by decide)
    exact .cons (dint rfl) (.cons (dint rfl) (.cons (dstr (by decide)) (.cons (dstr (by decide)) (.cons (dnil) (.nil)))))
  have d5 : DAt (allocsC w (cntObjs w.heap.size)) Tt (some ⟨w.heap.size + 5, 0, none⟩) 1 (exsD [.mk 3 0 ⟨#[]⟩ ⟨#[105]⟩ []]) := by
    refine dat_blk (blk_allocsC w _ 5 _ _ rfl) ?_ (by decide) (by decide)
    exact .cons (dint rfl) (.cons (dint rfl) (.cons (dstr (by decide)) (.cons (dstr (by decide)) (.cons (dnil) (.nil)))))
  have d6 : DAt (allocsC w (cntObjs w.heap.size)) Tt (some ⟨w.heap.size + 6, 0, none⟩) 2 (exsD [.mk 3 0 ⟨#[]⟩ ⟨#[115, 117, 109]⟩ [], .mk 3 0 ⟨#[]⟩ ⟨#[105]⟩ []]) := by
    refine dat_blk (blk_allocsC w _ 6 _ _ rfl) ?_ (by decide) (by decide)
    exact .cons (dint rfl) (.cons (dint rfl) (.cons (dstr (by decide)) (.cons (dstr (by decide)) (.cons (dnil) (.cons (dint rfl) (.cons (dint rfl) (.cons (dstr (by decide)) (.cons (dstr (by decide)) (.cons (dnil) (.nil))))))))))
  have d7 : DAt (allocsC w (cntObjs w.heap.size)) Tt (some ⟨w.heap.size + 7, 0, none⟩) 1 (exsD [.mk 9 0 ⟨#[]⟩ ⟨#[]⟩ [.mk 3 0 ⟨#[]⟩ ⟨#[115, 117, 109]⟩ [], .mk 3 0 ⟨#[]⟩ ⟨#[105]⟩ []]]) := by
    refine dat_blk (blk_allocsC w _ 7 _ _ rfl) ?_ (by decide) (by decide)
    exact .cons (dint rfl) (.cons (dint rfl) (.cons (dstr (by decide)) (.cons (dstr (by decide)) (.cons (d6.val) (.nil)))))
  have d8 : DAt (allocsC w (cntObjs w.heap.size)) Tt (some ⟨w.heap.size + 8, 0, none⟩) 2 (exsD [.mk 3 0 ⟨#[]⟩ ⟨#[105]⟩ [], .mk 1 1 ⟨#[]⟩ ⟨#[]⟩ []]) := by
    refine dat_blk (blk_allocsC w _ 8 _ _ rfl) ?_ (by decide) (by decide)
    exact .cons (dint rfl) (.cons (dint rfl) (.cons (dstr (by decide)) (.cons (dstr (by decide)) (.cons (dnil) (.cons (dint rfl) (.cons (dint rfl) (.cons (dstr (by decide)) (.cons (dstr (by decide)) (.cons (dnil) (.nil))))))))))
  have d9 : DAt (allocsC w (cntObjs w.heap.size)) Tt (some ⟨w.heap.size + 9, 0, none⟩) 1 (exsD [.mk 10 0 ⟨#[]⟩ ⟨#[]⟩ [.mk 3 0 ⟨#[]⟩ ⟨#[105]⟩ [], .mk 1 1 ⟨#[]⟩ ⟨#[]⟩ []]]) := by
    refine dat_blk (blk_allocsC w _ 9 _ _ rfl) ?_ (by decide) (by decide)
    exact .cons (dint rfl) (.cons (dint rfl) (.cons (dstr (by decide)) (.cons (dstr (by decide)) (.cons (d8.val) (.nil)))))
  have d10 : DAt (allocsC w (cntObjs w.heap.size)) Tt (some ⟨w.heap.size + 10, 0, none⟩) 2 (stsD [.mk 1 ⟨#[]⟩ ⟨#[115, 117, 109]⟩ [.mk 9 0 ⟨#[]⟩ ⟨#[]⟩ [.mk 3 0 ⟨#[]⟩ ⟨#[115, 117, 109]⟩ [], .mk 3 0 ⟨#[]⟩ ⟨#[105]⟩ []]] [] [], .mk 1 ⟨#[]⟩ ⟨#[105]⟩ [.mk 10 0 ⟨#[]⟩ ⟨#[]⟩ [.mk 3 0 ⟨#[]⟩ ⟨#[105]⟩ [], .mk 1 1 ⟨#[]⟩ ⟨#[]⟩ []]] [] []]) := by
    refine dat_blk (blk_allocsC w _ 10 _ _ rfl) ?_ (by decide) (by decide)
    exact .cons (dint rfl) (.cons (dstr (by decide)) (.cons (dstr (by decide)) (.cons (d7.val) (.cons (dnil) (.cons (dnil) (.cons (dint rfl) (.cons (dstr (by decide)) (.cons (dstr (by decide)) (.cons (d9.val) (.cons (dnil) (.cons (dnil) (.nil))))))))))))
  have d11 : DAt (allocsC w (cntObjs w.heap.size)) Tt (some ⟨w.heap.size + 11, 0, none⟩) 1 (exsD [.mk 3 0 ⟨#[]⟩ ⟨#[115, 117, 109]⟩ []]) := by
    refine dat_blk (blk_allocsC w _ 11 _ _ rfl) ?_ (by decide) (by decide)
    exact .cons (dint rfl) (.cons (dint rfl) (.cons (dstr (by decide)) (.cons (dstr (by decide)) (.cons (dnil) (.nil)))))
  have d12 : DAt (allocsC w (cntObjs w.heap.size)) Tt (some ⟨w.heap.size + 12, 0, none⟩) 3 (stsD cntBody) := by
    refine dat_blk (blk_allocsC w _ 12 _ _ rfl) ?_ (by decide) (by decide)
    exact .cons (dint rfl) (.cons (dstr (by decide)) (.cons (dstr (by decide)) (.cons (d4.val) (.cons (dnil) (.cons (dnil) (.cons (dint rfl) (.cons (dstr (by decide)) (.cons (dstr (by decide)) (.cons (d5.val) (.cons (d10.val) (.cons (dnil) (.cons (dint rfl) (.cons (dstr (by decide)) (.cons (dstr (by decide)) (.cons (d11.val) (.cons (dnil) (.cons (dnil) (.nil))))))))))))))))))
  have d13 : DAt (allocsC w (cntObjs w.heap.size)) Tt (some ⟨w.heap.size + 13, 0, none⟩) 1 (prsD cntMo.procs) := by
    refine dat_blk (blk_allocsC w _ 13 _ _ rfl) ?_ (by decide) (by decide)
    exact .cons (dstr (by decide)) (.cons (dbool) (.cons (d2.val) (.cons (d3.val) (.cons (d12.val) (.nil)))))
  exact ⟨rfl, by decide, ⟨Nat.le_refl _, by decide, Or.inl rfl⟩, d1, d13, ⟨Nat.le_refl _, by decide, Or.inl rfl⟩⟩

set_option maxHeartbeats 1600000 in
theorem counter_any (w : World) :
    Calls Tryz.prog 54 #[] w fun e w' => ∃ v a1 c1 a2 c2 a3 c3 a4 c4, e = .returned v ∧ MoAt w' Tt cntMo v a1 c1 a2 c2 a3 c3 a4 c4 ∧ Below w.heap.size w w' := by
  have HM := hid (cnt_at w)
  go_enter Tryz.func54, Tryz.ntmps54
  go_wp2_with fail
  show bodyPost _ _ _ _ _ (allocsC w (cntObjs w.heap.size))
  obtain ⟨h0, h1, h2, h3, h4, hlt⟩ := (blk_allocsC w (cntObjs w.heap.size) 0 _ _ rfl).c5
  rw [Nat.add_zero] at h0 h1 h2 h3 h4 hlt
  have HB := below_allocsC (cntObjs w.heap.size) w
  have HM := HM.out
  generalize allocsC w (cntObjs w.heap.size) = W at *
  exact bodyPost_ret (v := .agg #[.string ⟨#[99, 110, 116]⟩, .slice none 0 0, .slice (some ⟨w.heap.size + 1, 0, none⟩) 3 3, .slice (some ⟨w.heap.size + 13, 0, none⟩) 1 1, .slice none 0 0]) (by simp [results, Tryz.results54, go_sem, h0, h1, h2, h3, h4]) rfl ⟨_, _, _, _, _, _, _, _, _, rfl, HM, HB⟩
theorem topText_any (w : World) : Calls Tryz.prog 56 #[] w fun e w' => e = .returned (.string topS) ∧ w' = w := by
  go_enter Tryz.func56, Tryz.ntmps56
  go_wp2_with fail
  go_ret
  exact ⟨rfl, rfl⟩
end Go.Proofs.YtndkhgakfodldaaGreatDoor

namespace Go.Proofs.YtndkhgakfodldaaGreatDoor
open Go.RowKit Go.Maps Go.WideMaps
set_option linter.unusedSimpArgs false
set_option linter.unusedVariables false
set_option maxRecDepth 100000

theorem dup_nodup : ∀ l : List (List UInt8), Fx.dupB l = false ↔ l.Nodup := by
  apply Fx.list_snoc_ind
  · exact ⟨fun _ => .nil, fun _ => rfl⟩
  · intro l s ih
    rw [Fx.dup_snoc, Bool.or_eq_false_iff, ih, decide_eq_false_iff_not, List.nodup_append]
    constructor
    · rintro ⟨h1, h2⟩
      refine ⟨h1, by simp, fun a ha b hb e => ?_⟩
      rw [List.mem_singleton.1 hb] at e
      exact h2 (e ▸ ha)
    · rintro ⟨h1, _, h2⟩
      exact ⟨h1, fun hs => h2 s hs s (by simp) rfl⟩
theorem pick_sub : ∀ (bs : List Bool) (l : List It), (pick bs l).Sublist l
  | [], l => by simp [pick]
  | _ :: _, [] => by simp [pick]
  | b :: bs, x :: l => by
    have ih := pick_sub bs l
    unfold pick at ih ⊢
    rw [List.zip_cons_cons, List.filterMap_cons]
    cases b with
    | false => exact ih.cons x
    | true => exact ih.cons_cons x
theorem face_right {m : Mo} (h : chkM m = 0) : Fx.chkF ⟨m.name, shownIts m⟩ = 0 := by
  have he := chk_err h
  have ho := mo_ok he
  have hmp := many_parts he
  have hlo := lay_ok he
  have hdat := layD_bound m.decls 0 hlo.kinds
  have hsub := pick_sub (pubs m) (layItems m)
  have hlen : (shownIts m).length ≤ 16 := by
    have h1 := hsub.length_le
    have h2 := layItems_len m
    have := hlo.decls
    have := hlo.procs
    unfold shownIts
    omega
  have nm : ∀ s, nameOk s = true → Fx.nameOk s = true := fun s hs => by
    unfold nameOk at hs
    rw [Bool.and_eq_true] at hs
    exact hs.2
  refine Fx.chk_ok (by show ¬ 16 < (shownIts m).length; omega) (nm _ ho.name) ?_ ?_
  · have hd : Fx.dupB (Fx.namesOf (layItems m)) = false := by
      unfold chkM at h
      rw [if_neg (by simp [he])] at h
      cases hd : Fx.dupB (Fx.namesOf (layItems m)) with
      | false => rfl
      | true => rw [hd] at h; simp at h
    exact (dup_nodup _).2 (((dup_nodup _).1 hd).sublist (hsub.map _))
  · rw [List.all_eq_true]
    intro it hit
    have hit := hsub.subset hit
    obtain ⟨_, hits⟩ := layD_its m.decls 0 (Int.le_refl _) (fun d hd => (ho.decls d hd).2)
    unfold layItems at hit
    rcases List.mem_append.1 hit with h1 | h1
    · have hf := hits it h1
      have hnm : Fx.nameOk it.name = true ∧ (it.kind = 1 → it.at_ = 0) ∧ (it.kind = 2 → it.n = 0) := by
        have : ∀ (l : List De) (a : Int), (∀ d ∈ l, nameOk d.name = true ∧ sizeOk d = true) → ∀ x ∈ (layD a l).1, Fx.nameOk x.name = true ∧ (x.kind = 1 → x.at_ = 0) ∧ (x.kind = 2 → x.n = 0) := by
          intro l
          induction l with
          | nil => intro a _ x hx; cases hx
          | cons d r ih =>
            intro a hl x hx
            rcases List.mem_cons.1 hx with rfl | hx
            · have hd := hl d (by simp)
              refine ⟨nm _ hd.1, fun (e : d.kind = 1) => ?_, fun (e : d.kind = 2) => ?_⟩
              · show (if d.kind = 2 ∨ d.kind = 3 then a else 0) = 0
                rw [if_neg (by omega)]
              · have := hd.2
                unfold sizeOk at this
                rw [if_neg (by omega), if_neg (by omega)] at this
                exact of_decide_eq_true this
            · exact ih _ (fun y hy => hl y (by simp [hy])) x hx
        exact this m.decls 0 (fun d hd => ⟨(ho.decls d hd).1, (ho.decls d hd).2.1⟩) it h1
      have hk := hf.kind
      have hdl := hlo.decls
      unfold Fx.itemOk
      rw [hnm.1, Bool.true_and]
      unfold Fx.numOkB
      rcases (by omega : it.kind = 1 ∨ it.kind = 2 ∨ it.kind = 3) with e | e | e
      · have := hf.num e
        rw [if_pos e, decide_eq_true this.1, decide_eq_true this.2, decide_eq_true (hnm.2.1 e)]; rfl
      · have := hf.var e
        rw [if_neg (by omega), if_pos e, decide_eq_true (hnm.2.2 e), decide_eq_true this.1, decide_eq_true (by omega)]; rfl
      · have := hf.arr e
        rw [if_neg (by omega), if_neg (by omega), if_pos e, decide_eq_true this.1.1, decide_eq_true this.1.2, decide_eq_true this.2.1, decide_eq_true (by omega)]; rfl
    · obtain ⟨j, hj, rfl⟩ := prIts_mem _ _ _ h1
      have hp := ho.procs m.procs[j] (List.getElem_mem hj)
      have hq := hmp.2.2.2.1 m.procs[j] (List.getElem_mem hj)
      have := hmp.2.2.1
      show (Fx.nameOk m.procs[j].name && Fx.numOkB ⟨4, m.procs[j].params.length, ((0 + j : Nat) : Int), m.procs[j].name⟩) = true
      rw [nm _ hp.1, Bool.true_and]
      show (decide ((0 : Int) ≤ m.procs[j].params.length) && decide ((m.procs[j].params.length : Int) ≤ 3) && decide ((0 : Int) ≤ ((0 + j : Nat) : Int)) && decide (((0 + j : Nat) : Int) ≤ 320)) = true
      rw [decide_eq_true (by omega), decide_eq_true (by omega), decide_eq_true (by omega), decide_eq_true (by omega)]; rfl
end Go.Proofs.YtndkhgakfodldaaGreatDoor

namespace Go.Proofs.YtndkhgakfodldaaGreatDoor
open Go.RowKit Go.Maps Go.WideMaps
set_option linter.unusedSimpArgs false
set_option linter.unusedVariables false
set_option maxRecDepth 100000

def Begun (f : FuncId) : Prop := ∀ W : World, Calls Tryz.prog f #[] W fun e W' => e = .returned (.bool true) ∧ Below W.heap.size W W'
theorem resolve_err {m : Mo} {l : List Fc} (h : chkM m ≠ 0) : resolveM m l = .error (chkM m) := if_pos h
theorem resolve_ok {m : Mo} {l : List Fc} {u : Un} (h : resolveM m l = .ok u) : l.length = m.uses.length := by
  unfold resolveM at h
  split at h
  · cases h
  · split at h
    · cases h
    · rename_i h1; exact Classical.byContradiction fun h2 => h1 h2
/- A unit that was made, in a list of its own. -/
theorem unit_list {W : World} {lo : Nat} {u : Un} {x1 : Option Addr} {y1 : Nat} {x2 : Option Addr} {y2 : Nat} {x3 : Option Addr} {y3 : Nat} (hn : u.name.size ≤ maxLen) (hu : u.uses = []) (h : holdB u (numU []) (prtU []) = true)
    (e2 : EAt W (lo ≤ ·) x2 u.parts.length (ptsD u.parts)) (e3 : EAt W (lo ≤ ·) x3 u.main.length (acsD u.main)) (t : TypeId) :
    DAt (W.alloc (.cells #[.string u.name, .slice x1 u.uses.length y1, .int .i64 u.data, .slice x2 u.parts.length y2, .slice x3 u.main.length y3] t)) Tt (some ⟨W.heap.size, 0, none⟩) [u].length (unsD [u]) := by
  obtain ⟨f1, f2, f3, f4, f5, f6⟩ := unit_fit h hu
  have l1 := ptsD_len u.parts
  have l2 := acsD_len u.main
  have mv : Moves W (lo ≤ ·) (W.alloc (.cells #[.string u.name, .slice x1 u.uses.length y1, .int .i64 u.data, .slice x2 u.parts.length y2, .slice x3 u.main.length y3] t)) Tt := ⟨by simp, fun b hb _ => ⟨trivial, (al1 _ _).block b hb⟩⟩
  have d2 := (e2.toD (by omega) (by omega) f1).moves mv
  have d3 := (e3.toD (by omega) (by omega) f2).moves mv
  refine dat_blk (Blk.new W _ t) ?_ (by simp [unsD, Un.ds]) (by simp [unsD, Un.ds])
  show DVals _ Tt (Un.ds u ++ []) _
  rw [List.append_nil]
  unfold Un.ds
  refine .cons (dstr hn) (.cons ?_ (.cons (dint (wf_lit (by omega) (by omega))) (.cons d2.val (.cons d3.val .nil))))
  rw [hu]
  exact dnil
set_option maxHeartbeats 6400000 in
theorem ScopeRight_any (hSB : Begun 17) (m : Mo) (v : Value) (a1 : Option Addr) (c1 : Nat) (a2 : Option Addr) (c2 : Nat) (a3 : Option Addr) (c3 : Nat) (a4 : Option Addr) (c4 : Nat) (l : List Fc) (al : Option Addr) (cl : Nat) (w : World) (hM : MoAt w Tt m v a1 c1 a2 c2 a3 c3 a4 c4) (hF : DAt w Tt al l.length (fcsD l)) :
    Calls Tryz.prog 5 #[v, .slice al l.length cl] w fun e w' => e = .returned (.bool true) ∧ Below w.heap.size w w' := by
  obtain rfl := hM.val
  have HS := hid hSB
  have HM := hid hM
  have HF := hid hF
  have HC := hid (Face_any m _ a1 c1 a2 c2 a3 c3 a4 c4 (w.alloc (.cells #[.string m.name, .slice a1 m.uses.length c1, .slice a2 m.decls.length c2, .slice a3 m.procs.length c3, .slice a4 m.main.length c4] 27)) (hM.later (al1 _ _)))
  have hub := hM.uses.bound
  clear hSB hM hF
  go_enter Tryz.func5, Tryz.ntmps5
  go_wp2_with fail
  refine HC.out.mono ?_
  rintro e w1 ⟨hend, hb1⟩
  have HB1 := hid (thenB (al1 w _) hb1)
  have HX1 := hid ((hb1.block _ (by simp)).trans (heap_newP w (.cells #[.string m.name, .slice a1 m.uses.length c1, .slice a2 m.decls.length c2, .slice a3 m.procs.length c3, .slice a4 m.main.length c4] 27)))
  obtain ⟨q0, q1, q2, q3, q4, _⟩ := cellsOf5 HX1.out
  have qz := lt_of_heap HX1.out
  clear hb1 HC
  unfold faceEnd at hend
  rcases hend with ⟨hc, rfl⟩ | ⟨hc, af, cf, rfl, hE⟩
  · have HC2 := hid (fun W (hW : Below w1.heap.size w1 W) => Resolve_any m _ a1 c1 a2 c2 a3 c3 a4 c4 l al cl W (HM.out.later (thenB HB1.out hW)) (HF.out.later (thenB HB1.out hW)))
    rw [resolve_err hc] at HC2
    simp only [unitEnd] at HC2
    generalize chkM m = z at *
    go_wp2_with fail
    refine (HC2.out _ (al1 _ _)).mono ?_
    rintro e w2 ⟨⟨rfl, _⟩, hb2⟩
    have HB2 := hid (thenB HB1.out (thenB (al1 _ _) hb2))
    clear hb2 HC2 q0 q1 q2 q3 q4 qz
    go_wp2_with fail
    refine (HS.out _).mono ?_
    rintro e w3 ⟨rfl, hb3⟩
    have HB3 := hid (thenB HB2.out (thenB (al1 _ _) hb3))
    clear hb3
    go_wp2_with fail
    go_ret
    exact ⟨rfl, HB3.out⟩
  · obtain ⟨hI, hAF⟩ := items_at hE
    have HI := hid hI
    have HAF := hid hAF
    have HCk := hid (face_right hc)
    have HL16 : Hid ((shownIts m).length ≤ 16) := by
      show _ ≤ 16
      have := HCk.out
      unfold Fx.chkF at this
      split at this
      · cases this
      · rename_i h; simp only at h; omega
    have HC2 := hid (fun W (hW : Below w1.heap.size w1 W) => Resolve_any m _ a1 c1 a2 c2 a3 c3 a4 c4 l al cl W (HM.out.later (thenB HB1.out hW)) (HF.out.later (thenB HB1.out hW)))
    have HCc := hid (fun W (hW : Below w1.heap.size w1 W) => Fx.scopeCheck_any ⟨m.name, shownIts m⟩ af cf W (HI.out.later hW) (by show (shownIts m).length ≤ _; have := HL16.out; omega) HM.out.wna HAF.out)
    rw [HCk.out] at HCc
    clear hE hI hAF
    generalize hsh : shownIts m = sh at *
    go_wp2_with fail
    refine (HC2.out _ (al1 _ _)).mono ?_
    rintro e w2 ⟨hend, hb2⟩
    have HBa := hid (thenB (al1 w1 _) hb2)
    have HX2 := hid ((HBa.out.block _ (lt_of_heap HX1.out)).trans HX1.out)
    have HY2 := hid ((hb2.block _ (by simp)).trans (heap_newP w1 (.cells #[.string m.name, .slice af sh.length cf] 30)))
    clear hb2 HC2 q0 q1 q2 q3 q4 qz
    obtain ⟨q0, q1, q2, q3, q4, _⟩ := cellsOf5 HX2.out
    have qz := lt_of_heap HX2.out
    obtain ⟨r0, r1, _⟩ := cellsOf2 HY2.out
    have rz := lt_of_heap HY2.out
    cases hr : resolveM m l with
    | error c =>
      rw [hr] at hend
      obtain ⟨rfl, hcc⟩ := hend
      clear hr
      go_wp2_with fail
      refine (HCc.out _ (thenB HBa.out (al1 _ _))).mono ?_
      rintro e w3 ⟨rfl, hb3⟩
      have HBb := hid (thenB (al1 w2 _) hb3)
      have HX3 := hid ((HBb.out.block _ (lt_of_heap HX2.out)).trans HX2.out)
      have HY3 := hid ((HBb.out.block _ (lt_of_heap HY2.out)).trans HY2.out)
      clear hb3 q0 q1 q2 q3 q4 qz r0 r1 rz
      obtain ⟨q0, q1, q2, q3, q4, _⟩ := cellsOf5 HX3.out
      have qz := lt_of_heap HX3.out
      obtain ⟨r0, r1, _⟩ := cellsOf2 HY3.out
      have rz := lt_of_heap HY3.out
      go_wp2_with fail
      refine (HS.out _).mono ?_
      rintro e w4 ⟨rfl, hb4⟩
      have HB4 := hid (thenB HB1.out (thenB HBa.out (thenB HBb.out hb4)))
      clear hb4
      go_wp2_with fail
      go_ret
      exact ⟨rfl, HB4.out⟩
    | ok u =>
      rw [hr] at hend
      obtain ⟨x1, y1, x2, y2, x3, y3, rfl, hu1, hu2, hu3⟩ := hend
      have hll := resolve_ok hr
      have HR := hid hr
      have HU2 := hid hu2
      have HU3 := hid hu3
      clear hr hu1 hu2 hu3
      go_wp2_with fail
      refine (HCc.out _ (thenB HBa.out (al1 _ _))).mono ?_
      rintro e w3 ⟨rfl, hb3⟩
      have HBb := hid (thenB (al1 w2 _) hb3)
      have HX3 := hid ((HBb.out.block _ (lt_of_heap HX2.out)).trans HX2.out)
      have HY3 := hid ((HBb.out.block _ (lt_of_heap HY2.out)).trans HY2.out)
      have HZ3 := hid ((hb3.block _ (by simp)).trans (heap_newP w2 (.cells #[.string u.name, .slice x1 u.uses.length y1, .int .i64 u.data, .slice x2 u.parts.length y2, .slice x3 u.main.length y3] 42)))
      clear hb3 q0 q1 q2 q3 q4 qz r0 r1 rz
      obtain ⟨q0, q1, q2, q3, q4, _⟩ := cellsOf5 HX3.out
      have qz := lt_of_heap HX3.out
      obtain ⟨r0, r1, _⟩ := cellsOf2 HY3.out
      have rz := lt_of_heap HY3.out
      by_cases hu0 : m.uses.length = 0
      · have hl0 : l = [] := List.eq_nil_of_length_eq_zero (by omega)
        obtain ⟨hsem, hhold, hun⟩ := unit_right hu0 (by rw [← hl0]; exact HR.out)
        have hnm : u.name = m.name := by
          have := HR.out
          unfold resolveM at this
          split at this
          · cases this
          · split at this
            · cases this
            · split at this
              · unfold unitM at this
                obtain ⟨_, _, this⟩ := ok_bind this
                obtain ⟨_, _, this⟩ := ok_bind this
                rw [← Except.ok.inj this]
              · cases this
        have HSem := hid hsem
        have HHo := hid hhold
        have HUn := hid hun
        have HNm : Hid (u.name.size ≤ maxLen) := by show _ ≤ _; rw [hnm]; exact HM.out.wna
        clear hsem hhold hun hnm hl0 hll
        go_wp2_with fail
        refine (HS.out _).mono ?_
        rintro e w4 ⟨rfl, hb4⟩
        have HBc := hid hb4
        have HZ4 := hid ((hb4.block _ (lt_of_heap HZ3.out)).trans HZ3.out)
        clear hb4 q0 q1 q2 q3 q4 qz r0 r1 rz
        obtain ⟨z0, z1, z2, z3, z4, _⟩ := cellsOf5 HZ4.out
        have zz := lt_of_heap HZ4.out
        have HDat := hid (unit_list (x1 := x1) (y1 := y1) (y2 := y2) (y3 := y3) HNm.out HUn.out HHo.out (HU2.out.later (thenB HBb.out HBc.out)) (HU3.out.later (thenB HBb.out HBc.out)) 42)
        have HCs := hid (fun cap => semCheck_any [u] (some ⟨w4.heap.size, 0, none⟩) cap _ HDat.out (fun y hy => by rw [List.mem_singleton.1 hy, HUn.out]; simp))
        rw [HSem.out] at HCs
        go_wp2_with fail
        refine (HCs.out _).mono ?_
        rintro e w5 ⟨rfl, hb5⟩
        have HB5 := hid (thenB HB1.out (thenB HBa.out (thenB HBb.out (thenB HBc.out (thenB (al1 _ _) hb5)))))
        clear hb5
        go_wp2_with fail
        go_ret
        exact ⟨rfl, HB5.out⟩
      · have hu0' : 0 < m.uses.length := by omega
        clear hu0
        go_wp2_with fail
        refine (HS.out _).mono ?_
        rintro e w4 ⟨rfl, hb4⟩
        have HB4 := hid (thenB HB1.out (thenB HBa.out (thenB HBb.out hb4)))
        clear hb4
        go_wp2_with fail
        go_ret
        exact ⟨rfl, HB4.out⟩
end Go.Proofs.YtndkhgakfodldaaGreatDoor
