/-
  The sample modules resolved: reckoned; the law's counted face; two copies of one face are the same.
-/
import Derived.Test.YtndkhgakfodldaaGreatDoorUs
import Derived.Test.YtndkhgakfodldaaGreatDoorWd
import Derived.Deep.QuietTactic
import Derived.BigQuiet
namespace Go.Proofs.YtndkhgakfodldaaGreatDoor
open Go.RowKit Go.Maps Go.WideMaps
set_option linter.unusedSimpArgs false
set_option maxRecDepth 100000

def cntF : Fc := ⟨⟨#[99, 110, 116]⟩, [⟨1, 3, 0, ⟨#[107]⟩⟩, ⟨2, 0, 0, ⟨#[115, 117, 109]⟩⟩, ⟨3, 4, 1, ⟨#[116]⟩⟩, ⟨4, 1, 0, ⟨#[100, 111, 119, 110]⟩⟩]⟩
theorem cntF_ok : Fx.chkF cntF = 0 := by kernel_rfl
theorem cnt_chk : chkM cntMo = 0 := by kernel_rfl
theorem cnt_shown : shownIts cntMo = cntF.items := by kernel_rfl
def okOr (r : Except Int Un) : Un := match r with | .ok u => u | .error _ => ⟨⟨#[]⟩, [], 0, [], []⟩
def cntUn : Un := okOr (resolveM cntMo [])
def topUn : Un := okOr (resolveM topMo [cntF])
theorem cnt_res : resolveM cntMo [] = .ok cntUn := by kernel_rfl
theorem top_res : resolveM topMo [cntF] = .ok topUn := by kernel_rfl
theorem top_res0 : resolveM topMo [] = .error 8 := by kernel_rfl
theorem cntUn_data : cntUn.data = 5 := by kernel_rfl
theorem cntUn_len : cntUn.parts.length = 1 ∧ cntUn.uses.length = 0 ∧ cntUn.main.length = 0 ∧ topUn.main.length = 3 ∧ topUn.uses.length = 1 ∧ topUn.parts.length = 0 := ⟨by kernel_rfl, by kernel_rfl, by kernel_rfl, by kernel_rfl, by kernel_rfl, by kernel_rfl⟩
theorem cnt_part : (ptsD cntUn.parts)[1]? = some (.int 1) := by kernel_rfl
theorem top_act : (acsD topUn.main)[1]? = some (.int 4) ∧ (acsD topUn.main)[2]? = some (.int 1) ∧ (acsD topUn.main)[3]? = some (.int 1) := ⟨by kernel_rfl, by kernel_rfl, by kernel_rfl⟩
/- A number in a list that lies there. -/
theorem EAt.num {w : World} {A : Nat → Prop} {a : Option Addr} {n : Nat} {ds : List D} (h : EAt w A a n ds) (hn : n ≠ 0) : ∃ b off, a = some ⟨b, off, none⟩ ∧ b < w.heap.size ∧ A b ∧ ∀ (j : Nat) (k : Int), ds[j]? = some (.int k) → w.cell? ⟨b, off + j, none⟩ = some (.int .i64 k) := by
  rcases h with h | ⟨b, off, cs, ha, hA, hb, hc, hx⟩
  · exact absurd h hn
  · refine ⟨b, off, ha, hb, hA, fun j k hj => ?_⟩
    obtain ⟨v, hv, hd⟩ := hx.get j _ hj
    rw [enum_of hd] at hv
    exact hc j _ hv
set_option maxHeartbeats 1600000 in
theorem counted_any (w : World) :
    Calls Tryz.prog 57 #[] w fun e w' => ∃ ad cap, e = .returned (.agg #[.string ⟨#[99, 110, 116]⟩, .slice ad 4 cap]) ∧ DAt w' Tt ad 4 (itsD cntF.items) ∧ Below w.heap.size w w' := by
  go_enter Tryz.func57, Tryz.ntmps57
  go_wp2_with fail
  obtain ⟨W, hW⟩ : ∃ W, W = allocsC w [(#[.string ⟨#[99, 110, 116]⟩, .slice (some ⟨w.heap.size + 1, 0, none⟩) 4 4], 30), (#[.int .i64 1, .int .i64 3, .int .i64 0, .string ⟨#[107]⟩, .int .i64 2, .int .i64 0, .int .i64 0, .string ⟨#[115, 117, 109]⟩, .int .i64 3, .int .i64 4, .int .i64 1, .string ⟨#[116]⟩, .int .i64 4, .int .i64 1, .int .i64 0, .string ⟨#[100, 111, 119, 110]⟩], 98)] := ⟨_, rfl⟩
  have hB : Below w.heap.size w W := by rw [hW]; exact below_allocsC _ _
  have hD : DAt W Tt (some ⟨w.heap.size + 1, 0, none⟩) 4 (itsD cntF.items) := by
    rw [hW]
    refine dat_blk (blk_allocsC w _ 1 _ _ rfl) ?_ (by decide) (by decide)
    exact .cons (dint rfl) (.cons (dint rfl) (.cons (dint rfl) (.cons (dstr (by decide)) (.cons (dint rfl) (.cons (dint rfl) (.cons (dint rfl) (.cons (dstr (by decide)) (.cons (dint rfl) (.cons (dint rfl) (.cons (dint rfl) (.cons (dstr (by decide)) (.cons (dint rfl) (.cons (dint rfl) (.cons (dint rfl) (.cons (dstr (by decide)) .nil)))))))))))))))
  refine bodyPost_ret (v := .agg #[.string ⟨#[99, 110, 116]⟩, .slice (some ⟨w.heap.size + 1, 0, none⟩) 4 4]) (by simp [results, Tryz.results57, go_sem]) rfl ⟨some ⟨w.heap.size + 1, 0, none⟩, 4, rfl, ?_, ?_⟩
  · rw [hW] at hD; exact hD
  · rw [hW] at hB; exact hB
set_option maxHeartbeats 1600000 in
theorem SameFaces_same (f : Fc) (a a' : Option Addr) (cap cap' : Nat) (w : World) (hA : Fx.ItemsAt w a f.items) (hA' : Fx.ItemsAt w a' f.items) (hl : f.items.length ≤ 1000) :
    Calls Tryz.prog 18 #[.agg #[.string f.name, .slice a f.items.length cap], .agg #[.string f.name, .slice a' f.items.length cap']] w fun e w' => e = .returned (.bool true) ∧ Below w.heap.size w w' := by
  obtain ⟨W0, hW0⟩ : ∃ W0, W0 = (w.alloc (.cells #[.string f.name, .slice a f.items.length cap] 30)).alloc (.cells #[.string f.name, .slice a' f.items.length cap'] 30) := ⟨_, rfl⟩
  have hB : Below w.heap.size w W0 := by rw [hW0]; exact bl2 _ _ _
  have hX : W0.heap[w.heap.size]? = some (.cells #[.string f.name, .slice a f.items.length cap] 30) := by rw [hW0]; exact heap_old (heap_newP _ _)
  have hY : W0.heap[w.heap.size + 1]? = some (.cells #[.string f.name, .slice a' f.items.length cap'] 30) := by
    rw [hW0]
    simpa using heap_newP (w.alloc (.cells #[.string f.name, .slice a f.items.length cap] 30)) (.cells #[.string f.name, .slice a' f.items.length cap'] 30)
  have HI := hid (hA.later hB)
  have HI' := hid (hA'.later hB)
  have HB := hid hB
  have HW := hid hW0
  obtain ⟨x0, x1, _⟩ := cellsOf2 hX
  obtain ⟨y0, y1, _⟩ := cellsOf2 hY
  have hYlt := lt_of_heap hY
  clear hA hA' hB hW0 hX hY
  go_enter Tryz.func18, Tryz.ntmps18
  go_wp2_with fail
  rw [← HW.out]
  clear HW
  go_wp2_with fail
  have HX0 := hid x1
  have HY0 := hid y1
  have hz0 : w.heap.size + 1 < W0.heap.size := hYlt
  go_loopw [5] (fun i wr => ∃ k : Nat, k ≤ f.items.length ∧ i = .int .i64 k ∧ Below W0.heap.size W0 wr) (fun i _ => f.items.length - (intOf i).toNat)
  case atStart => exact ⟨0, Nat.zero_le _, rfl, Below.refl _ _⟩
  case round =>
    obtain ⟨k, hk, rfl, hb⟩ := hrel
    have HBw := hid hb
    have x2 : wr.cell? ⟨w.heap.size, 1, none⟩ = some (.slice a f.items.length cap) := (hb.cell (p := ⟨w.heap.size, 1, none⟩) (by show w.heap.size < _; omega)).trans HX0.out
    have y2 : wr.cell? ⟨w.heap.size + 1, 1, none⟩ = some (.slice a' f.items.length cap') := (hb.cell (p := ⟨w.heap.size + 1, 1, none⟩) (by show w.heap.size + 1 < _; omega)).trans HY0.out
    by_cases hlt : k < f.items.length
    · obtain ⟨b, off, rfl, hbl, c0, c1, c2, c3⟩ := (HI.out.later hb).place hlt
      obtain ⟨b', off', rfl, hbl', d0, d1, d2, d3⟩ := (HI'.out.later hb).place hlt
      clear hb x0 x1 y0 y1
      generalize f.items[k] = it at *
      obtain ⟨kd, nn, att, xs⟩ := it
      simp only at c0 c1 c2 c3 d0 d1 d2 d3
      go_wp2_with (go_quiet (fail))
      go_roundw
      case rel => exact ⟨k + 1, by omega, by go_num, HBw.out.os, HBw.out.tape, HBw.out.output, HBw.out.size, HBw.out.block⟩
      case measure => simp [intOf]; omega
    · obtain rfl : k = f.items.length := by omega
      have HBf := hid (HB.out.trans (hb.mono HB.out.size))
      clear hb
      go_wp2_with fail
      go_returns
      exact ⟨rfl, HBf.out⟩
/- What the calls of the law's first look answer. -/
theorem face_cnt {w : World} {v : Value} {a1 a2 a3 a4 : Option Addr} {c1 c2 c3 c4 : Nat} (hM : MoAt w Tt cntMo v a1 c1 a2 c2 a3 c3 a4 c4) :
    Calls Tryz.prog 15 #[v] w fun e w' => ∃ a cap, e = .returned (.tuple #[.agg #[.string ⟨#[99, 110, 116]⟩, .slice a 4 cap], .int .i64 0]) ∧ (Fx.ItemsAt w' a cntF.items ∧ Fx.AllFit cntF.items) ∧ Below w.heap.size w w' :=
  (Face_any cntMo v a1 c1 a2 c2 a3 c3 a4 c4 w hM).mono fun e w' ⟨h, hb⟩ => by
    rcases h with ⟨h, _⟩ | ⟨_, a, cap, he, hE⟩
    · exact absurd cnt_chk h
    · rw [cnt_shown] at he hE
      exact ⟨a, cap, he, items_at hE, hb⟩
theorem res_cnt {w : World} {v : Value} {a1 a2 a3 a4 : Option Addr} {c1 c2 c3 c4 : Nat} (hM : MoAt w Tt cntMo v a1 c1 a2 c2 a3 c3 a4 c4) :
    Calls Tryz.prog 21 #[v, .slice none 0 0] w fun e w' => ∃ s x1 n1 y1 b2 o2 y2 x3 n3 y3, e = .returned (.tuple #[.agg #[.string s, .slice x1 n1 y1, .int .i64 5, .slice (some ⟨b2, o2, none⟩) 1 y2, .slice x3 n3 y3], .int .i64 0]) ∧ (b2 < w'.heap.size ∧ w'.cell? ⟨b2, o2 + 1, none⟩ = some (.int .i64 1)) ∧ Below w.heap.size w w' :=
  (Resolve_any cntMo v a1 c1 a2 c2 a3 c3 a4 c4 [] none 0 w hM ⟨Nat.le_refl _, Nat.zero_le _, Or.inl rfl⟩).mono fun e w' ⟨h, hb⟩ => by
    rw [cnt_res] at h
    obtain ⟨x1, y1, x2, y2, x3, y3, he, _, h2, _⟩ := h
    rw [cntUn_len.1] at h2 he
    obtain ⟨b, off, rfl, hlt, _, hc⟩ := h2.num (by decide)
    rw [cntUn_data] at he
    exact ⟨_, x1, _, y1, b, off, y2, x3, _, y3, he, ⟨hlt, hc 1 1 cnt_part⟩, hb⟩
theorem res_top0 {w : World} {v : Value} {a1 a2 a3 a4 : Option Addr} {c1 c2 c3 c4 : Nat} (hM : MoAt w Tt topMo v a1 c1 a2 c2 a3 c3 a4 c4) :
    Calls Tryz.prog 21 #[v, .slice none 0 0] w fun e w' => e = .returned (.tuple #[.agg #[.string ⟨#[]⟩, .slice none 0 0, .int .i64 0, .slice none 0 0, .slice none 0 0], .int .i64 8]) ∧ Below w.heap.size w w' :=
  (Resolve_any topMo v a1 c1 a2 c2 a3 c3 a4 c4 [] none 0 w hM ⟨Nat.le_refl _, Nat.zero_le _, Or.inl rfl⟩).mono fun e w' ⟨h, hb⟩ => by
    rw [top_res0] at h
    exact ⟨h.1, hb⟩
theorem parse_top (w : World) : Calls Tryz.prog 55 #[.string topS] w fun e w' => ∃ v a1 c1 a2 c2 a3 c3 a4 c4, e = .returned (.tuple #[v, .int .i64 0]) ∧ MoAt w' Tt topMo v a1 c1 a2 c2 a3 c3 a4 c4 ∧ Below w.heap.size w w' :=
  (Parse_any topS w (by decide)).mono fun e w' ⟨h, hb⟩ => by
    rcases h with ⟨h, _⟩ | ⟨m, v, a1, c1, a2, c2, a3, c3, a4, c4, hp, _, he, hM⟩
    · rw [top_pars] at h; cases h
    · rw [top_pars] at hp
      obtain rfl := Option.some.inj hp
      exact ⟨v, a1, c1, a2, c2, a3, c3, a4, c4, he, hM, hb⟩
end Go.Proofs.YtndkhgakfodldaaGreatDoor
