/-
  The sample module as it lies in memory.
-/
import Derived.Test.YtcekpobmbmnplaaGreatDoorVc
namespace Go.Proofs.YtcekpobmbmnplaaGreatDoor
open Go.RowKit
set_option maxRecDepth 100000

def allocsC (w : World) : List (Array Value × TypeId) → World
  | [] => w
  | x :: r => allocsC (w.alloc (.cells x.1 x.2)) r
theorem below_allocsC : ∀ (l : List (Array Value × TypeId)) (w : World), Below w.heap.size w (allocsC w l)
  | [], _ => Below.refl _ _
  | _ :: r, w => thenB (al1 w _) (below_allocsC r _)
theorem blk_allocsC : ∀ (w : World) (l : List (Array Value × TypeId)) (i : Nat) (cs : Array Value) (t : TypeId), l[i]? = some (cs, t) → Blk (allocsC w l) (w.heap.size + i) cs.toList
  | w, [], i, cs, t, h => by simp at h
  | w, x :: r, 0, cs, t, h => by
    simp at h
    subst h
    exact (Blk.new w cs t).later (below_allocsC r _)
  | w, x :: r, i + 1, cs, t, h => by
    have := blk_allocsC (w.alloc (.cells x.1 x.2)) r i cs t (by simpa using h)
    rw [show w.heap.size + (i + 1) = (w.alloc (.cells x.1 x.2)).heap.size + i from by simp; omega]
    exact this
theorem dat_blk {w : World} {b n : Nat} {ds : List D} {cs : List Value} (h : Blk w b cs) (hd : DVals w Tt ds cs) (h1 : n ≤ ds.length) (h2 : ds.length ≤ 1000) : DAt w Tt (some ⟨b, 0, none⟩) n ds :=
  ⟨h1, by omega, Or.inr ⟨b, 0, cs, rfl, trivial, h.lt, fun j u hj => by rw [Nat.zero_add]; exact h.cell j u hj, hd⟩⟩
def cntObjs (n : Nat) : List (Array Value × TypeId) :=
  [(#[.string ⟨#[99, 110, 116]⟩, .slice none 0 0, .slice (some ⟨n + 1, 0, none⟩) 3 3, .slice (some ⟨n + 13, 0, none⟩) 1 1, .slice none 0 0], 27),
   (#[.int .i64 1, .string ⟨#[107]⟩, .bool true, .int .i64 3, .int .i64 2, .string ⟨#[115, 117, 109]⟩, .bool true, .int .i64 0, .int .i64 3, .string ⟨#[116]⟩, .bool true, .int .i64 4], 58),
   (#[.string ⟨#[110]⟩], 9),
   (#[.string ⟨#[105]⟩], 9),
   (#[.int .i64 3, .int .i64 0, .string ⟨#[]⟩, .string ⟨#[110]⟩, .slice none 0 0], 76),
   (#[.int .i64 3, .int .i64 0, .string ⟨#[]⟩, .string ⟨#[105]⟩, .slice none 0 0], 76),
   (#[.int .i64 3, .int .i64 0, .string ⟨#[]⟩, .string ⟨#[115, 117, 109]⟩, .slice none 0 0, .int .i64 3, .int .i64 0, .string ⟨#[]⟩, .string ⟨#[105]⟩, .slice none 0 0], 76),
   (#[.int .i64 9, .int .i64 0, .string ⟨#[]⟩, .string ⟨#[]⟩, .slice (some ⟨n + 6, 0, none⟩) 2 2], 76),
   (#[.int .i64 3, .int .i64 0, .string ⟨#[]⟩, .string ⟨#[105]⟩, .slice none 0 0, .int .i64 1, .int .i64 1, .string ⟨#[]⟩, .string ⟨#[]⟩, .slice none 0 0], 76),
   (#[.int .i64 10, .int .i64 0, .string ⟨#[]⟩, .string ⟨#[]⟩, .slice (some ⟨n + 8, 0, none⟩) 2 2], 76),
   (#[.int .i64 1, .string ⟨#[]⟩, .string ⟨#[115, 117, 109]⟩, .slice (some ⟨n + 7, 0, none⟩) 1 1, .slice none 0 0, .slice none 0 0, .int .i64 1, .string ⟨#[]⟩, .string ⟨#[105]⟩, .slice (some ⟨n + 9, 0, none⟩) 1 1, .slice none 0 0, .slice none 0 0], 47),
   (#[.int .i64 3, .int .i64 0, .string ⟨#[]⟩, .string ⟨#[115, 117, 109]⟩, .slice none 0 0], 76),
   (#[.int .i64 1, .string ⟨#[]⟩, .string ⟨#[105]⟩, .slice (some ⟨n + 4, 0, none⟩) 1 1, .slice none 0 0, .slice none 0 0, .int .i64 5, .string ⟨#[]⟩, .string ⟨#[]⟩, .slice (some ⟨n + 5, 0, none⟩) 1 1, .slice (some ⟨n + 10, 0, none⟩) 2 2, .slice none 0 0, .int .i64 6, .string ⟨#[]⟩, .string ⟨#[]⟩, .slice (some ⟨n + 11, 0, none⟩) 1 1, .slice none 0 0, .slice none 0 0], 47),
   (#[.string ⟨#[100, 111, 119, 110]⟩, .bool true, .slice (some ⟨n + 2, 0, none⟩) 1 1, .slice (some ⟨n + 3, 0, none⟩) 1 1, .slice (some ⟨n + 12, 0, none⟩) 3 3], 60)]
def cntBody : List St := (cntMo.procs.map Pr.body).flatten
theorem cnt_at (w : World) : MoAt (allocsC w (cntObjs w.heap.size)) Tt cntMo (.agg #[.string ⟨#[99, 110, 116]⟩, .slice none 0 0, .slice (some ⟨w.heap.size + 1, 0, none⟩) 3 3, .slice (some ⟨w.heap.size + 13, 0, none⟩) 1 1, .slice none 0 0]) none 0 (some ⟨w.heap.size + 1, 0, none⟩) 3 (some ⟨w.heap.size + 13, 0, none⟩) 1 none 0 := by
  have d1 : DAt (allocsC w (cntObjs w.heap.size)) Tt (some ⟨w.heap.size + 1, 0, none⟩) 3 (desD cntMo.decls) := by
    refine dat_blk (blk_allocsC w _ 1 _ _ rfl) ?_ (by decide) (by decide)
    exact .cons (dint rfl) (.cons (dstr (by decide)) (.cons (dbool) (.cons (dint rfl) (.cons (dint rfl) (.cons (dstr (by decide)) (.cons (dbool) (.cons (dint rfl) (.cons (dint rfl) (.cons (dstr (by decide)) (.cons (dbool) (.cons (dint rfl) (.nil))))))))))))
  have d2 : DAt (allocsC w (cntObjs w.heap.size)) Tt (some ⟨w.heap.size + 2, 0, none⟩) 1 (strsD [⟨#[110]⟩]) := by
    refine dat_blk (blk_allocsC w _ 2 _ _ rfl) ?_ (by decide) (by decide)
    exact .cons (dstr (by decide)) (.nil)
  have d3 : DAt (allocsC w (cntObjs w.heap.size)) Tt (some ⟨w.heap.size + 3, 0, none⟩) 1 (strsD [⟨#[105]⟩]) := by
    refine dat_blk (blk_allocsC w _ 3 _ _ rfl) ?_ (by decide) (by decide)
    exact .cons (dstr (by decide)) (.nil)
  have d4 : DAt (allocsC w (cntObjs w.heap.size)) Tt (some ⟨w.heap.size + 4, 0, none⟩) 1 (exsD [.mk 3 0 ⟨#[]⟩ ⟨#[110]⟩ []]) := by
    refine dat_blk (blk_allocsC w _ 4 _ _ rfl) ?_ (by decide) (by decide)
    exact .cons (dint rfl) (.cons (dint rfl) (.cons (dstr (by decide)) (.cons (dstr (by decide)) (.cons (dnil) (.nil)))))
  have d5 : DAt (allocsC w (cntObjs w.heap.size)) Tt (some ⟨w.heap.size + 5, 0, none⟩) 1 (exsD [.mk 3 0 ⟨#[]⟩ ⟨#[105]⟩ []]) := by
    refine dat_blk (blk_allocsC w _ 5 _ _ rfl) ?_ (by decide) (by decide)
    exact .cons (dint rfl) (.cons (dint rfl) (.cons (dstr (by decide)) (.cons (dstr (by decide)) (.cons (dnil) (.nil)))))
  have d6 : DAt (allocsC w (cntObjs w.heap.size)) Tt (some ⟨w.heap.size + 6, 0, none⟩) 2 (exsD [.mk 3 0 ⟨#[]⟩ ⟨#[115, 117, 109]⟩ [], .mk 3 0 ⟨#[]⟩ ⟨#[105]⟩ []]) := by
    refine dat_blk (blk_allocsC w _ 6 _ _ rfl) ?_ (by decide) (by decide)
    exact .cons (dint rfl) (.cons (dint rfl) (.cons (dstr (by decide)) (.cons (dstr (by decide)) (.cons (dnil) (.cons (dint rfl) (.cons (dint rfl) (.cons (dstr (by decide)) (.cons (dstr (by decide)) (.cons (dnil) (.nil))))))))))
  have d7 : DAt (allocsC w (cntObjs w.heap.size)) Tt (some ⟨w.heap.size + 7, 0, none⟩) 1 (exsD [.mk 9 0 ⟨#[]⟩ ⟨#[]⟩ [.mk 3 0 ⟨#[]⟩ ⟨#[115, 117, 109]⟩ [], .mk 3 0 ⟨#[]⟩ ⟨#[105]⟩ []]]) := by
    refine dat_blk (blk_allocsC w _ 7 _ _ rfl) ?_ (by decide) (by decide)
    exact .cons (dint rfl) (.cons (dint rfl) (.cons (dstr (by decide)) (.cons (dstr (by decide)) (.cons (d6.val) (.nil)))))
  have d8 : DAt (allocsC w (cntObjs w.heap.size)) Tt (some ⟨w.heap.size + 8, 0, none⟩) 2 (exsD [.mk 3 0 ⟨#[]⟩ ⟨#[105]⟩ [], .mk 1 1 ⟨#[]⟩ ⟨#[]⟩ []]) := by
    refine dat_blk (blk_allocsC w _ 8 _ _ rfl) ?_ (by decide) (by decide)
    exact .cons (dint rfl) (.cons (dint rfl) (.cons (dstr (by decide)) (.cons (dstr (by decide)) (.cons (dnil) (.cons (dint rfl) (.cons (dint rfl) (.cons (dstr (by decide)) (.cons (dstr (by decide)) (.cons (dnil) (.nil))))))))))
  have d9 : DAt (allocsC w (cntObjs w.heap.size)) Tt (some ⟨w.heap.size + 9, 0, none⟩) 1 (exsD [.mk 10 0 ⟨#[]⟩ ⟨#[]⟩ [.mk 3 0 ⟨#[]⟩ ⟨#[105]⟩ [], .mk 1 1 ⟨#[]⟩ ⟨#[]⟩ []]]) := by
    refine dat_blk (blk_allocsC w _ 9 _ _ rfl) ?_ (by decide) (by decide)
    exact .cons (dint rfl) (.cons (dint rfl) (.cons (dstr (by decide)) (.cons (dstr (by decide)) (.cons (d8.val) (.nil)))))
  have d10 : DAt (allocsC w (cntObjs w.heap.size)) Tt (some ⟨w.heap.size + 10, 0, none⟩) 2 (stsD [.mk 1 ⟨#[]⟩ ⟨#[115, 117, 109]⟩ [.mk 9 0 ⟨#[]⟩ ⟨#[]⟩ [.mk 3 0 ⟨#[]⟩ ⟨#[115, 117, 109]⟩ [], .mk 3 0 ⟨#[]⟩ ⟨#[105]⟩ []]] [] [], .mk 1 ⟨#[]⟩ ⟨#[105]⟩ [.mk 10 0 ⟨#[]⟩ ⟨#[]⟩ [.mk 3 0 ⟨#[]⟩ ⟨#[105]⟩ [], .mk 1 1 ⟨#[]⟩ ⟨#[]⟩ []]] [] []]) := by
    refine dat_blk (blk_allocsC w _ 10 _ _ rfl) ?_ (by decide) (by decide)
    exact .cons (dint rfl) (.cons (dstr (by decide)) (.cons (dstr (by decide)) (.cons (d7.val) (.cons (dnil) (.cons (dnil) (.cons (dint rfl) (.cons (dstr (by decide)) (.cons (dstr (by decide)) (.cons (d9.val) (.cons (dnil) (.cons (dnil) (.nil))))))))))))
  have d11 : DAt (allocsC w (cntObjs w.heap.size)) Tt (some ⟨w.heap.size + 11, 0, none⟩) 1 (exsD [.mk 3 0 ⟨#[]⟩ ⟨#[115, 117, 109]⟩ []]) := by
    refine dat_blk (blk_allocsC w _ 11 _ _ rfl) ?_ (by decide) (by decide)
    exact .cons (dint rfl) (.cons (dint rfl) (.cons (dstr (by decide)) (.cons (dstr (by decide)) (.cons (dnil) (.nil)))))
  have d12 : DAt (allocsC w (cntObjs w.heap.size)) Tt (some ⟨w.heap.size + 12, 0, none⟩) 3 (stsD cntBody) := by
    refine dat_blk (blk_allocsC w _ 12 _ _ rfl) ?_ (by decide) (by decide)
    exact .cons (dint rfl) (.cons (dstr (by decide)) (.cons (dstr (by decide)) (.cons (d4.val) (.cons (dnil) (.cons (dnil) (.cons (dint rfl) (.cons (dstr (by decide)) (.cons (dstr (by decide)) (.cons (d5.val) (.cons (d10.val) (.cons (dnil) (.cons (dint rfl) (.cons (dstr (by decide)) (.cons (dstr (by decide)) (.cons (d11.val) (.cons (dnil) (.cons (dnil) (.nil))))))))))))))))))
  have d13 : DAt (allocsC w (cntObjs w.heap.size)) Tt (some ⟨w.heap.size + 13, 0, none⟩) 1 (prsD cntMo.procs) := by
    refine dat_blk (blk_allocsC w _ 13 _ _ rfl) ?_ (by decide) (by decide)
    exact .cons (dstr (by decide)) (.cons (dbool) (.cons (d2.val) (.cons (d3.val) (.cons (d12.val) (.nil)))))
  exact ⟨rfl, by decide, ⟨Nat.le_refl _, by decide, Or.inl rfl⟩, d1, d13, ⟨Nat.le_refl _, by decide, Or.inl rfl⟩⟩

set_option maxHeartbeats 1600000 in
theorem counter_any (w : World) :
    Calls Tryz.prog 15 #[] w fun e w' => ∃ v a1 c1 a2 c2 a3 c3 a4 c4, e = .returned v ∧ MoAt w' Tt cntMo v a1 c1 a2 c2 a3 c3 a4 c4 ∧ Below w.heap.size w w' := by
  have HM := hid (cnt_at w)
  go_enter Tryz.func15, Tryz.ntmps15
  go_wp2_with fail
  show bodyPost _ _ _ _ _ (allocsC w (cntObjs w.heap.size))
  obtain ⟨h0, h1, h2, h3, h4, hlt⟩ := (blk_allocsC w (cntObjs w.heap.size) 0 _ _ rfl).c5
  rw [Nat.add_zero] at h0 h1 h2 h3 h4 hlt
  have HB := below_allocsC (cntObjs w.heap.size) w
  have HM := HM.out
  generalize allocsC w (cntObjs w.heap.size) = W at *
  exact bodyPost_ret (v := .agg #[.string ⟨#[99, 110, 116]⟩, .slice none 0 0, .slice (some ⟨w.heap.size + 1, 0, none⟩) 3 3, .slice (some ⟨w.heap.size + 13, 0, none⟩) 1 1, .slice none 0 0]) (by simp [results, Tryz.results15, go_sem, h0, h1, h2, h3, h4]) rfl ⟨_, _, _, _, _, _, _, _, _, rfl, HM, HB⟩
theorem topText_any (w : World) : Calls Tryz.prog 16 #[] w fun e w' => e = .returned (.string topS) ∧ w' = w := by
  go_enter Tryz.func16, Tryz.ntmps16
  go_wp2_with fail
  go_ret
  exact ⟨rfl, rfl⟩
theorem countText_any (w : World) : Calls Tryz.prog 17 #[] w fun e w' => e = .returned (.string cntS) ∧ w' = w := by
  go_enter Tryz.func17, Tryz.ntmps17
  go_wp2_with fail
  go_ret
  exact ⟨rfl, rfl⟩
end Go.Proofs.YtcekpobmbmnplaaGreatDoor
