/-
  Package scope: the items that a module shows; what Face answers.
-/
import Derived.Test.YtndkhgakfodldaaGreatDoorUi
import Derived.Deep.RegionHeld
namespace Go.Proofs.YtndkhgakfodldaaGreatDoor
open Go.RowKit Go.Maps Go.WideMaps
set_option linter.unusedSimpArgs false

def pick (bs : List Bool) (l : List It) : List It := (bs.zip l).filterMap fun p => if p.1 then some p.2 else none
def pubs (m : Mo) : List Bool := m.decls.map De.pub ++ m.procs.map Pr.pub
def shownIts (m : Mo) : List It := pick (pubs m) (layItems m)
theorem pubs_len (m : Mo) : (pubs m).length = m.decls.length + m.procs.length := by simp [pubs]
theorem pubs_decl (m : Mo) (j : Nat) (h : j < m.decls.length) : (pubs m)[j]'(by rw [pubs_len]; omega) = m.decls[j].pub := by
  unfold pubs; rw [List.getElem_append_left (by simpa using h)]; simp
theorem pubs_proc (m : Mo) (j : Nat) (h : j < m.procs.length) : (pubs m)[m.decls.length + j]'(by rw [pubs_len]; omega) = m.procs[j].pub := by
  unfold pubs; rw [List.getElem_append_right (by simp)]; simp
theorem pick_step (bs : List Bool) (l : List It) (k : Nat) (hb : k < bs.length) (hl : k < l.length) : pick (bs.take (k + 1)) (l.take (k + 1)) = pick (bs.take k) (l.take k) ++ if bs[k] then [l[k]] else [] := by
  unfold pick
  rw [List.take_succ_eq_append_getElem hb, List.take_succ_eq_append_getElem hl, List.zip_append (by simp; omega), List.filterMap_append]
  congr 1
  cases bs[k] <;> rfl
set_option maxRecDepth 100000 in
set_option maxHeartbeats 3200000 in
theorem shown_any (m : Mo) (v : Value) (a1 : Option Addr) (c1 : Nat) (a2 : Option Addr) (c2 : Nat) (a3 : Option Addr) (c3 : Nat) (a4 : Option Addr) (c4 : Nat) (items : List It) (ai : Option Addr) (ci : Nat) (w : World) (hM : MoAt w Tt m v a1 c1 a2 c2 a3 c3 a4 c4) (hok : LayOk m) (hlen : items.length = m.decls.length + m.procs.length) (hI : Fx.ItemsAt w ai items) (hF : Fx.AllFit items) :
    Calls Tryz.prog 50 #[v, .slice ai items.length ci] w fun e w' => (∃ a cap, e = .returned (.slice a (pick (pubs m) items).length cap) ∧ EAt w' (w.heap.size ≤ ·) a (pick (pubs m) items).length (itsD (pick (pubs m) items))) ∧ Below w.heap.size w w' := by
  obtain rfl := hM.val
  have HDe := hid hM.decls
  have HPr := hid hM.procs
  have HIt := hid hI
  have HFi := hid hF
  have HLn := hid hlen
  have hd10 := hok.decls
  have hp6 := hok.procs
  clear hM hok hI hF hlen
  go_enter Tryz.func50, Tryz.ntmps50
  go_wp2_with fail
  go_loopw [5, 6, 7, 13] (fun v _ _ i wr => ∃ (j : Nat) (acc : List It), j ≤ m.decls.length ∧ i = .int .i64 j ∧ acc.length ≤ j ∧ acc = pick ((pubs m).take j) (items.take j) ∧ Row (w.heap.size + 1) 98 4 wr v acc.length (itsD acc) ∧ wr.heap[w.heap.size]? = some (.cells #[.string m.name, .slice a1 m.uses.length c1, .slice a2 m.decls.length c2, .slice a3 m.procs.length c3, .slice a4 m.main.length c4] 27) ∧ Below w.heap.size w wr) (fun _ _ _ i _ => m.decls.length - (intOf i).toNat)
  case atStart => exact ⟨0, [], Nat.zero_le _, rfl, Nat.le_refl _, by simp [pick], Row.nil _ _ _ _, heap_newP _ _, al1 _ _⟩
  case round =>
    obtain ⟨j, acc, hj, rfl, hacc, hdef, hrow, hbx, hb⟩ := hrel
    have HO := hid hrow
    have HM0 := hid hbx
    have HB := hid hb
    have HDf := hid hdef
    have hzr := hb.size
    have hxlt := lt_of_heap hbx
    clear hrow hb hdef
    by_cases hlt : j < m.decls.length
    · have hji : j < items.length := by have := HLn.out; omega
      have HSn : Hid (pick ((pubs m).take (j + 1)) (items.take (j + 1)) = acc ++ if m.decls[j].pub then [items[j]] else []) := by
        show pick ((pubs m).take (j + 1)) (items.take (j + 1)) = _
        rw [pick_step _ _ j (by rw [pubs_len]; omega) hji, pubs_decl m j hlt, ← HDf.out]
      have hnx := HFi.out items[j] (List.getElem_mem _)
      have HIj := hid ((HIt.out.later HB.out).place hji)
      obtain ⟨b, off, rfl, hx⟩ := (HDe.out.later HB.out).de j hlt
      obtain ⟨hbl, x0, x1, xp, x3, _, _, hnm⟩ := hx
      obtain ⟨b2, off2, rfl, hbl2, i0, i1, i2, i3⟩ := HIj.out
      have hjn : (j : Int) < items.length := by omega
      clear HIj
      generalize m.decls[j] = d at *
      generalize items[j] = x at *
      cases hpub : d.pub with
      | true =>
        have HO1 : Hid (Row (w.heap.size + 1) 98 4 (wr.alloc (.cells #[.int .i64 d.kind, .string d.name, .bool d.pub, .int .i64 d.n] 170)) u5 acc.length (itsD acc)) := HO.out.alloc _
        have HE1 : Hid (EVals (wr.alloc (.cells #[.int .i64 d.kind, .string d.name, .bool d.pub, .int .i64 d.n] 170)) (fun _ => False) (itD x) [.int .i64 x.kind, .int .i64 x.n, .int .i64 x.at_, .string x.name]) := it_evals hnx
        have HX1 : Hid ((wr.alloc (.cells #[.int .i64 d.kind, .string d.name, .bool d.pub, .int .i64 d.n] 170)).heap[w.heap.size]? = some (.cells #[.string m.name, .slice a1 m.uses.length c1, .slice (some ⟨b, off, none⟩) m.decls.length c2, .slice a3 m.procs.length c3, .slice a4 m.main.length c4] 27)) := heap_old HM0.out
        have HBA : Hid (Below w.heap.size w (wr.alloc (.cells #[.int .i64 d.kind, .string d.name, .bool d.pub, .int .i64 d.n] 170))) := thenB HB.out (al1 _ _)
        have HSt : Hid (pick ((pubs m).take (j + 1)) (items.take (j + 1)) = acc ++ [x]) := HSn.out.trans (by rw [hpub]; rfl)
        rw [hpub] at HO1 HE1 HX1 HBA
        clear hnx hbx HSn
        rw [hpub] at xp
        go_wp2_with (at_builtin; refine append_row rfl (.tmp 20) (.tmp 25) 28 rfl (w.heap.size + 1) 98 _ 4 40 Tryz.underlying28 Tryz.infoItem rfl (by decide) (wr.alloc (.cells #[.int .i64 d.kind, .string d.name, .bool true, .int .i64 d.n] 170)) u5 acc.length (itsD acc) (itD x) rfl HO1.out #[.int .i64 x.kind, .int .i64 x.n, .int .i64 x.at_, .string x.name] _ (by simp) rfl rfl (fun _ => False) HE1.out (fun b _ h => h.elim) (by omega) (by decide) (by simp; omega) ?_)
        intro g5 c5 w5 HO5 HB5 hz5
        have HO5' := hid HO5
        have HB5' := hid HB5
        clear HO5 HB5 HO1 HE1
        go_wp2_with fail
        go_roundw
        case rel => exact ⟨j + 1, acc ++ [x], by omega, by go_num, by rw [List.length_append]; simp; omega, HSt.out.symm, by rw [itsD_snoc, List.length_append]; exact HO5'.out, (HB5'.out.block _ (by omega)).trans HX1.out, HBA.out.trans (HB5'.out.mono (by omega))⟩
        case measure => simp [intOf]; omega
      | false =>
        have HO1 : Hid (Row (w.heap.size + 1) 98 4 (wr.alloc (.cells #[.int .i64 d.kind, .string d.name, .bool d.pub, .int .i64 d.n] 170)) u5 acc.length (itsD acc)) := HO.out.alloc _
        have HX1 : Hid ((wr.alloc (.cells #[.int .i64 d.kind, .string d.name, .bool d.pub, .int .i64 d.n] 170)).heap[w.heap.size]? = some (.cells #[.string m.name, .slice a1 m.uses.length c1, .slice (some ⟨b, off, none⟩) m.decls.length c2, .slice a3 m.procs.length c3, .slice a4 m.main.length c4] 27)) := heap_old HM0.out
        have HBA : Hid (Below w.heap.size w (wr.alloc (.cells #[.int .i64 d.kind, .string d.name, .bool d.pub, .int .i64 d.n] 170))) := thenB HB.out (al1 _ _)
        have HSt : Hid (pick ((pubs m).take (j + 1)) (items.take (j + 1)) = acc) := HSn.out.trans (by rw [hpub]; simp)
        rw [hpub] at HO1 HX1 HBA
        clear hnx hbx HSn
        rw [hpub] at xp
        go_wp2_with fail
        go_roundw
        case rel => exact ⟨j + 1, acc, by omega, by go_num, by omega, HSt.out.symm, HO1.out, HX1.out, HBA.out⟩
        case measure => simp [intOf]; omega
    · obtain rfl : j = m.decls.length := by omega
      have HD0 : Hid (acc = pick ((pubs m).take m.decls.length) (items.take m.decls.length)) := HDf.out
      obtain ⟨k0, k1, k2, k3, k4, kf⟩ := cellsOf5 HM0.out
      clear HDf hbx
      go_wp2_with fail
      clear k0 k1 k2 k3 k4 kf
      go_loopw [5, 8, 9, 31] (fun v _ _ i wr => ∃ (j : Nat) (acc : List It), j ≤ m.procs.length ∧ i = .int .i64 j ∧ acc.length ≤ m.decls.length + j ∧ acc = pick ((pubs m).take (m.decls.length + j)) (items.take (m.decls.length + j)) ∧ Row (w.heap.size + 1) 98 4 wr v acc.length (itsD acc) ∧ wr.heap[w.heap.size]? = some (.cells #[.string m.name, .slice a1 m.uses.length c1, .slice a2 m.decls.length c2, .slice a3 m.procs.length c3, .slice a4 m.main.length c4] 27) ∧ Below w.heap.size w wr) (fun _ _ _ i _ => m.procs.length - (intOf i).toNat)
      case atStart => exact ⟨0, acc, Nat.zero_le _, rfl, hacc, HD0.out, HO.out, HM0.out, HB.out⟩
      case round =>
        clear HO HM0 HB hzr hxlt HD0 hacc
        obtain ⟨j, acc, hj2, rfl, hacc, hdef, hrow, hbx, hb⟩ := hrel
        have HO := hid hrow
        have HM0 := hid hbx
        have HB := hid hb
        have HDf := hid hdef
        have hzr := hb.size
        have hxlt := lt_of_heap hbx
        clear hrow hb hdef
        by_cases hlt : j < m.procs.length
        · have hji : m.decls.length + j < items.length := by have := HLn.out; omega
          have HSn : Hid (pick ((pubs m).take (m.decls.length + (j + 1))) (items.take (m.decls.length + (j + 1))) = acc ++ if m.procs[j].pub then [items[m.decls.length + j]] else []) := by
            show pick ((pubs m).take (m.decls.length + j + 1)) (items.take (m.decls.length + j + 1)) = _
            rw [pick_step _ _ (m.decls.length + j) (by rw [pubs_len]; omega) hji, pubs_proc m j hlt, ← HDf.out]
          have hnx := HFi.out items[m.decls.length + j] (List.getElem_mem _)
          have HIj := hid ((HIt.out.later HB.out).place hji)
          obtain ⟨b, off, q1, d1, q2, d2, q3, d3, rfl, hx⟩ := (HPr.out.later HB.out).pr j hlt
          obtain ⟨hbl, x0, xp, x2, x3, x4, _, _, _, hnm⟩ := hx
          obtain ⟨b2, off2, rfl, hbl2, i0, i1, i2, i3⟩ := HIj.out
          have hadd : ((m.decls.length : Int) + (j : Int)) = ((m.decls.length + j : Nat) : Int) := by omega
          have hwr : IntKind.i64.wrap ((m.decls.length : Int) + (j : Int)) = ((m.decls.length + j : Nat) : Int) := by simp only [IntKind.wrap, IntKind.bits, IntKind.signed]; simp; omega
          have hjn : ((m.decls.length + j : Nat) : Int) < items.length := by omega
          have hj0 : (0 : Int) ≤ ((m.decls.length + j : Nat) : Int) := by omega
          obtain ⟨k0, k1, k2, k3, k4, kf⟩ := cellsOf5 HM0.out
          clear HIj hadd
          generalize m.procs[j] = p at *
          generalize items[m.decls.length + j] = x at *
          cases hpub : p.pub with
          | true =>
            have HO1 : Hid (Row (w.heap.size + 1) 98 4 (wr.alloc (.cells #[.string p.name, .bool p.pub, .slice q1 p.params.length d1, .slice q2 p.locals.length d2, .slice q3 p.body.length d3] 118)) u5 acc.length (itsD acc)) := HO.out.alloc _
            have HE1 : Hid (EVals (wr.alloc (.cells #[.string p.name, .bool p.pub, .slice q1 p.params.length d1, .slice q2 p.locals.length d2, .slice q3 p.body.length d3] 118)) (fun _ => False) (itD x) [.int .i64 x.kind, .int .i64 x.n, .int .i64 x.at_, .string x.name]) := it_evals hnx
            have HX1 : Hid ((wr.alloc (.cells #[.string p.name, .bool p.pub, .slice q1 p.params.length d1, .slice q2 p.locals.length d2, .slice q3 p.body.length d3] 118)).heap[w.heap.size]? = some (.cells #[.string m.name, .slice a1 m.uses.length c1, .slice a2 m.decls.length c2, .slice (some ⟨b, off, none⟩) m.procs.length c3, .slice a4 m.main.length c4] 27)) := heap_old HM0.out
            have HBA : Hid (Below w.heap.size w (wr.alloc (.cells #[.string p.name, .bool p.pub, .slice q1 p.params.length d1, .slice q2 p.locals.length d2, .slice q3 p.body.length d3] 118))) := thenB HB.out (al1 _ _)
            have HSt : Hid (pick ((pubs m).take (m.decls.length + (j + 1))) (items.take (m.decls.length + (j + 1))) = acc ++ [x]) := HSn.out.trans (by rw [hpub]; rfl)
            rw [hpub] at HO1 HE1 HX1 HBA
            clear hnx hbx HSn
            rw [hpub] at xp
            go_wp2_with (at_builtin; refine append_row rfl (.tmp 38) (.tmp 47) 28 rfl (w.heap.size + 1) 98 _ 4 40 Tryz.underlying28 Tryz.infoItem rfl (by decide) (wr.alloc (.cells #[.string p.name, .bool true, .slice q1 p.params.length d1, .slice q2 p.locals.length d2, .slice q3 p.body.length d3] 118)) u5 acc.length (itsD acc) (itD x) rfl HO1.out #[.int .i64 x.kind, .int .i64 x.n, .int .i64 x.at_, .string x.name] _ (by simp) rfl rfl (fun _ => False) HE1.out (fun b _ h => h.elim) (by omega) (by decide) (by simp; omega) ?_)
            intro g5 c5 w5 HO5 HB5 hz5
            have HO5' := hid HO5
            have HB5' := hid HB5
            clear HO5 HB5 HO1 HE1
            go_wp2_with fail
            go_roundw
            case rel => exact ⟨j + 1, acc ++ [x], by omega, by go_num, by rw [List.length_append]; simp; omega, HSt.out.symm, by rw [itsD_snoc, List.length_append]; exact HO5'.out, (HB5'.out.block _ (by omega)).trans HX1.out, HBA.out.trans (HB5'.out.mono (by omega))⟩
            case measure => simp [intOf]; omega
          | false =>
            have HO1 : Hid (Row (w.heap.size + 1) 98 4 (wr.alloc (.cells #[.string p.name, .bool p.pub, .slice q1 p.params.length d1, .slice q2 p.locals.length d2, .slice q3 p.body.length d3] 118)) u5 acc.length (itsD acc)) := HO.out.alloc _
            have HX1 : Hid ((wr.alloc (.cells #[.string p.name, .bool p.pub, .slice q1 p.params.length d1, .slice q2 p.locals.length d2, .slice q3 p.body.length d3] 118)).heap[w.heap.size]? = some (.cells #[.string m.name, .slice a1 m.uses.length c1, .slice a2 m.decls.length c2, .slice (some ⟨b, off, none⟩) m.procs.length c3, .slice a4 m.main.length c4] 27)) := heap_old HM0.out
            have HBA : Hid (Below w.heap.size w (wr.alloc (.cells #[.string p.name, .bool p.pub, .slice q1 p.params.length d1, .slice q2 p.locals.length d2, .slice q3 p.body.length d3] 118))) := thenB HB.out (al1 _ _)
            have HSt : Hid (pick ((pubs m).take (m.decls.length + (j + 1))) (items.take (m.decls.length + (j + 1))) = acc) := HSn.out.trans (by rw [hpub]; simp)
            rw [hpub] at HO1 HX1 HBA
            clear hnx hbx HSn
            rw [hpub] at xp
            go_wp2_with fail
            go_roundw
            case rel => exact ⟨j + 1, acc, by omega, by go_num, by omega, HSt.out.symm, HO1.out, HX1.out, HBA.out⟩
            case measure => simp [intOf]; omega
        · obtain rfl : j = m.procs.length := by omega
          have HR : Hid (pick (pubs m) items = acc) := by
            show pick (pubs m) items = acc
            rw [HDf.out, List.take_of_length_le (by rw [pubs_len]; omega), List.take_of_length_le (by rw [HLn.out]; omega)]
          obtain ⟨a5, c5, rfl, hea⟩ := HO.out.slice
          have HEA := hid hea
          clear hea hbx
          go_wp2_with fail
          go_ret
          refine ⟨⟨a5, c5, ?_, ?_⟩, HB.out⟩
          · rw [HR.out]; rfl
          · rw [HR.out]
            exact HEA.out.moves ⟨Nat.le_refl _, fun b _ h => ⟨by have : w.heap.size + 1 ≤ b := h; show w.heap.size ≤ b; omega, rfl⟩⟩
end Go.Proofs.YtndkhgakfodldaaGreatDoor

namespace Go.Proofs.YtndkhgakfodldaaGreatDoor
open Go.RowKit Go.Maps Go.WideMaps Go.Shelf
set_option linter.unusedSimpArgs false

/- How Face ends. -/
def faceEnd (lo : Nat) (m : Mo) (e : Ending) (w : World) : Prop :=
  (chkM m ≠ 0 ∧ e = .returned (.tuple #[.agg #[.string ⟨#[]⟩, .slice none 0 0], .int .i64 (chkM m)])) ∨
  (chkM m = 0 ∧ ∃ a cap, e = .returned (.tuple #[.agg #[.string m.name, .slice a (shownIts m).length cap], .int .i64 0]) ∧ EAt w (lo ≤ ·) a (shownIts m).length (itsD (shownIts m)))
theorem chk_err {m : Mo} (h : chkM m = 0) : m.err = 0 := by
  unfold chkM at h
  by_cases he : m.err = 0
  · exact he
  · rw [if_pos he] at h; exact h
theorem box5 {w : World} {b : Nat} {x0 x1 x2 x3 x4 : Value} {t : TypeId} (h : w.heap[b]? = some (.cells #[x0, x1, x2, x3, x4] t (0, 0))) : w.cell? ⟨b, 0, none⟩ = some x0 ∧ w.cell? ⟨b, 1, none⟩ = some x1 ∧ w.cell? ⟨b, 2, none⟩ = some x2 ∧ w.cell? ⟨b, 3, none⟩ = some x3 ∧ w.cell? ⟨b, 4, none⟩ = some x4 := by
  obtain ⟨h0, h1, h2, h3, h4, _⟩ := cellsOf5 h
  exact ⟨h0, h1, h2, h3, h4⟩
theorem set2_box {W : World} {b c : Nat} (hn : b ≠ c) {x0 x1 x2 x3 x4 : Value} (h : W.cell? ⟨b, 0, none⟩ = some x0 ∧ W.cell? ⟨b, 1, none⟩ = some x1 ∧ W.cell? ⟨b, 2, none⟩ = some x2 ∧ W.cell? ⟨b, 3, none⟩ = some x3 ∧ W.cell? ⟨b, 4, none⟩ = some x4) (u v : Value) :
    ((W.setCell ⟨c, 0, none⟩ u).setCell ⟨c, 1, none⟩ v).cell? ⟨b, 0, none⟩ = some x0 ∧ ((W.setCell ⟨c, 0, none⟩ u).setCell ⟨c, 1, none⟩ v).cell? ⟨b, 1, none⟩ = some x1 ∧ ((W.setCell ⟨c, 0, none⟩ u).setCell ⟨c, 1, none⟩ v).cell? ⟨b, 2, none⟩ = some x2 ∧ ((W.setCell ⟨c, 0, none⟩ u).setCell ⟨c, 1, none⟩ v).cell? ⟨b, 3, none⟩ = some x3 ∧ ((W.setCell ⟨c, 0, none⟩ u).setCell ⟨c, 1, none⟩ v).cell? ⟨b, 4, none⟩ = some x4 := by
  have e : ((W.setCell ⟨c, 0, none⟩ u).setCell ⟨c, 1, none⟩ v).heap[b]? = W.heap[b]? := (heap_set_ne hn _).trans (heap_set_ne hn _)
  have g : ∀ o, ((W.setCell ⟨c, 0, none⟩ u).setCell ⟨c, 1, none⟩ v).cell? ⟨b, o, none⟩ = W.cell? ⟨b, o, none⟩ := fun o => World.cell?_of_block (w := W) (a := ⟨b, o, none⟩) e
  exact ⟨(g 0).trans h.1, (g 1).trans h.2.1, (g 2).trans h.2.2.1, (g 3).trans h.2.2.2.1, (g 4).trans h.2.2.2.2⟩
set_option maxRecDepth 100000 in
set_option maxHeartbeats 3200000 in
theorem Face_any (m : Mo) (v : Value) (a1 : Option Addr) (c1 : Nat) (a2 : Option Addr) (c2 : Nat) (a3 : Option Addr) (c3 : Nat) (a4 : Option Addr) (c4 : Nat) (w : World) (hM : MoAt w Tt m v a1 c1 a2 c2 a3 c3 a4 c4) :
    Calls Tryz.prog 15 #[v] w fun e w' => faceEnd w.heap.size m e w' ∧ Below w.heap.size w w' := by
  obtain rfl := hM.val
  have HM := hid hM
  have HC := hid (checkModule_any m _ a1 c1 a2 c2 a3 c3 a4 c4 ((w.alloc (.cells #[.string m.name, .slice a1 m.uses.length c1, .slice a2 m.decls.length c2, .slice a3 m.procs.length c3, .slice a4 m.main.length c4] 27)).alloc (.cells #[.string ⟨#[]⟩, .slice none 0 0] 30)) (hM.later (bl2 _ _ _)))
  clear hM
  go_enter Tryz.func15, Tryz.ntmps15
  go_wp2_with fail
  refine HC.out.mono ?_
  rintro e w1 ⟨rfl, hb1⟩
  have HB1 := hid (thenB (bl2 w _ _) hb1)
  have hz1 := hb1.size
  simp at hz1
  have q1 := (hb1.block w.heap.size (by simp; omega)).trans (heap_old (heap_newP w _))
  have q2 : w1.heap[w.heap.size + 1]? = some (.cells #[.string ⟨#[]⟩, .slice none 0 0] 30) := (hb1.block (w.heap.size + 1) (by simp)).trans (by simpa using heap_newP (w.alloc _) _)
  have HQ1 := hid q1
  have HQ2 := hid q2
  obtain ⟨x0, x1, x2, x3, x4, xf⟩ := cellsOf5 q1
  obtain ⟨y0, y1, yf⟩ := cellsOf2 q2
  have hl1 := lt_of_heap q1
  have hl2 := lt_of_heap q2
  clear hb1 q1 q2 HC
  by_cases hc : chkM m = 0
  · have hlay := lay_ok (chk_err hc)
    have HLy := hid hlay
    have HC2 := hid (layout_any m _ a1 c1 a2 c2 a3 c3 a4 c4 w1 (HM.out.later HB1.out) hlay)
    have HZ := hid hc
    clear hlay
    rw [hc]
    clear hc
    go_wp2_with fail
    refine HC2.out.mono ?_
    rintro e w2 ⟨⟨ai, ci, rfl, hit⟩, hb2⟩
    have HB2 := hid (thenB HB1.out hb2)
    have hz2 := hb2.size
    have HP1 := hid ((hb2.block _ hl1).trans HQ1.out)
    have HP2 := hid ((hb2.block _ hl2).trans HQ2.out)
    obtain ⟨HI, HF⟩ := items_at hit
    have HC3 := hid (fun W (hW : Below w2.heap.size w2 W) => shown_any m _ a1 c1 a2 c2 a3 c3 a4 c4 (layItems m) ai ci W (HM.out.later (thenB HB2.out hW)) HLy.out (layItems_len m) (HI.later hW) HF)
    clear hb2 HC2 hit HI HF x0 x1 x2 x3 x4 xf y0 y1 yf
    obtain ⟨x0, x1, x2, x3, x4, xf⟩ := cellsOf5 HP1.out
    obtain ⟨y0, y1, yf⟩ := cellsOf2 HP2.out
    have hl1' := lt_of_heap HP1.out
    have hl2' := lt_of_heap HP2.out
    have HS := hid (fun W (hW : Below w2.heap.size w2 W) => box5 ((hW.block _ hl1').trans HP1.out))
    have FF := hid (HS.out _ (Below.refl _ w2).drew)
    have HYf := hid (fun W (hW : Below w2.heap.size w2 W) => cellsOf2 ((hW.block _ hl2').trans HP2.out))
    go_wp2_with fail
    clear x0 x1 x2 x3 x4 xf y0 y1 yf
    go_region_held (fun W => W.cell? ⟨w.heap.size, 0, none⟩ = some (.string m.name) ∧ W.cell? ⟨w.heap.size, 1, none⟩ = some (.slice a1 m.uses.length c1) ∧ W.cell? ⟨w.heap.size, 2, none⟩ = some (.slice a2 m.decls.length c2) ∧ W.cell? ⟨w.heap.size, 3, none⟩ = some (.slice a3 m.procs.length c3) ∧ W.cell? ⟨w.heap.size, 4, none⟩ = some (.slice a4 m.main.length c4)) (first | exact FF.out | exact set2_box (by omega) FF.out _ _)
      (first | (go_at_call 50; refine (HC3.out _ (Below.refl _ w2).drew).mono ?_; rintro e w3 ⟨⟨a5, c5, rfl, he5⟩, hb3⟩; have HB3 := hid (thenB (Below.refl _ w2).drew hb3); have HE5 := hid he5; clear he5 hb3; have FF := hid (HS.out _ HB3.out); obtain ⟨y0, y1, yf⟩ := HYf.out _ HB3.out; have hl3 : w.heap.size + 1 < w3.heap.size := Nat.lt_of_lt_of_le hl2' HB3.out.size))
    all_goals
      go_wp2_with fail
      refine bodyPost_ret (v := .tuple #[.agg #[.string m.name, .slice a5 (pick (pubs m) (layItems m)).length c5], .int .i64 0]) (by simp [results, Tryz.results15, go_sem, y0, y1, hl3]) rfl ⟨Or.inr ⟨HZ.out, a5, c5, rfl, ?_⟩, ?_⟩
      · exact (HE5.out.moves (((Moves.refl w3 _).set (p := ⟨w.heap.size + 1, 0, none⟩) (by intro b _ hb; have : w2.heap.size ≤ b := hb; show b ≠ w.heap.size + 1; omega) _).set (p := ⟨w.heap.size + 1, 1, none⟩) (by intro b _ hb; have : w2.heap.size ≤ b := hb; show b ≠ w.heap.size + 1; omega) _)).moves ⟨Nat.le_refl _, fun b _ h => ⟨by have : w2.heap.size ≤ b := h; show w.heap.size ≤ b; omega, rfl⟩⟩
      · exact ((thenB HB2.out HB3.out).setCell (p := ⟨w.heap.size + 1, 0, none⟩) (by show w.heap.size ≤ w.heap.size + 1; omega) _).setCell (p := ⟨w.heap.size + 1, 1, none⟩) (by show w.heap.size ≤ w.heap.size + 1; omega) _
  · have HF : Hid (faceEnd w.heap.size m (.returned (.tuple #[.agg #[.string ⟨#[]⟩, .slice none 0 0], .int .i64 (chkM m)])) ((w1.setCell ⟨w.heap.size + 1, 0, none⟩ (.string ⟨#[]⟩)).setCell ⟨w.heap.size + 1, 1, none⟩ (.slice none 0 0))) := Or.inl ⟨hc, rfl⟩
    go_wp2_with fail
    refine bodyPost_ret (v := .tuple #[.agg #[.string ⟨#[]⟩, .slice none 0 0], .int .i64 (chkM m)]) (by simp [results, Tryz.results15, go_sem, y0, y1, hl2]) rfl ⟨HF.out, ?_⟩
    exact (HB1.out.setCell (p := ⟨w.heap.size + 1, 0, none⟩) (by show w.heap.size ≤ w.heap.size + 1; omega) _).setCell (p := ⟨w.heap.size + 1, 1, none⟩) (by show w.heap.size ≤ w.heap.size + 1; omega) _
end Go.Proofs.YtndkhgakfodldaaGreatDoor

namespace Go.Proofs.YtndkhgakfodldaaGreatDoor
open Go.RowKit
set_option linter.unusedSimpArgs false

theorem ndsD_get : ∀ (l : List Nd) (i : Nat) (h : i < l.length) (j : Nat), j < 5 → (ndsD l)[i * 5 + j]? = (l[i].ds)[j]?
  | [], i, h, _, _ => by simp at h
  | x :: r, 0, _, j, hj => by
    have := x.ds_len
    simp only [ndsD, List.getElem_cons_zero]
    rw [List.getElem?_append_left (by omega), Nat.zero_mul, Nat.zero_add]
  | x :: r, i + 1, h, j, hj => by
    have := x.ds_len
    simp only [ndsD, List.getElem_cons_succ]
    rw [List.getElem?_append_right (by omega), show (i + 1) * 5 + j - x.ds.length = i * 5 + j from by omega]
    exact ndsD_get r i (by simpa using h) j hj
theorem acsD_get : ∀ (l : List Ac) (i : Nat) (h : i < l.length) (j : Nat), j < 7 → (acsD l)[i * 7 + j]? = (l[i].ds)[j]?
  | [], i, h, _, _ => by simp at h
  | x :: r, 0, _, j, hj => by
    have := x.ds_len
    simp only [acsD, List.getElem_cons_zero]
    rw [List.getElem?_append_left (by omega), Nat.zero_mul, Nat.zero_add]
  | x :: r, i + 1, h, j, hj => by
    have := x.ds_len
    simp only [acsD, List.getElem_cons_succ]
    rw [List.getElem?_append_right (by omega), show (i + 1) * 7 + j - x.ds.length = i * 7 + j from by omega]
    exact acsD_get r i (by simpa using h) j hj
def Un.ds (u : Un) : List D := [.str u.name, .list u.uses.length (strsD u.uses), .int u.data, .list u.parts.length (ptsD u.parts), .list u.main.length (acsD u.main)]
def unsD (l : List Un) : List D := l.flatMap Un.ds
structure NdAt (w : World) (A : Nat → Prop) (b o : Nat) (x : Nd) (a1 : Option Addr) (k1 : Nat) : Prop where
  lt : b < w.heap.size
  c0 : w.cell? ⟨b, o, none⟩ = some (.int .i64 x.op)
  c1 : w.cell? ⟨b, o + 1, none⟩ = some (.int .i64 x.n)
  c2 : w.cell? ⟨b, o + 2, none⟩ = some (.int .i64 x.m)
  c3 : w.cell? ⟨b, o + 3, none⟩ = some (.int .i64 x.at_)
  c4 : w.cell? ⟨b, o + 4, none⟩ = some (.slice a1 x.args.length k1)
  args' : DAt w A a1 x.args.length (ndsD x.args)
  w0 : (Lit.int .i64 x.op).wf = true
  w1 : (Lit.int .i64 x.n).wf = true
  w2 : (Lit.int .i64 x.m).wf = true
  w3 : (Lit.int .i64 x.at_).wf = true
theorem DAt.nd {w : World} {A : Nat → Prop} {a : Option Addr} {l : List Nd} (h : DAt w A a l.length (ndsD l)) (i : Nat) (hi : i < l.length) : ∃ b off a1 k1, a = some ⟨b, off, none⟩ ∧ NdAt w A b (off + i * 5) l[i] a1 k1 := by
  obtain ⟨b, off, ha, hb, hc⟩ := h.cell (by omega)
  generalize hx : l[i] = x
  obtain ⟨op, n, m, at_, args⟩ := x
  have g : ∀ j d, j < 5 → (Nd.mk op n m at_ args).ds[j]? = some d → ∃ v, w.cell? ⟨b, off + i * 5 + j, none⟩ = some v ∧ DVal w A d v := fun j d hj hd => by
    rw [Nat.add_assoc]; exact hc (i * 5 + j) d ((ndsD_get l i hi j hj).trans (by rw [hx]; exact hd))
  obtain ⟨v0, q0, d0⟩ := g 0 (.int op) (by omega) (by simp [Nd.ds])
  obtain ⟨v1, q1, d1⟩ := g 1 (.int n) (by omega) (by simp [Nd.ds])
  obtain ⟨v2, q2, d2⟩ := g 2 (.int m) (by omega) (by simp [Nd.ds])
  obtain ⟨v3, q3, d3⟩ := g 3 (.int at_) (by omega) (by simp [Nd.ds])
  obtain ⟨v4, q4, d4⟩ := g 4 (.list args.length (ndsD args)) (by omega) (by simp [Nd.ds])
  obtain ⟨rfl, w0⟩ := dnum_of d0
  obtain ⟨rfl, w1⟩ := dnum_of d1
  obtain ⟨rfl, w2⟩ := dnum_of d2
  obtain ⟨rfl, w3⟩ := dnum_of d3
  obtain ⟨a1, k1, rfl, h1⟩ := dlist_of d4
  exact ⟨b, off, a1, k1, ha, hb, q0, q1, q2, q3, q4, h1, w0, w1, w2, w3⟩
structure AcAt (w : World) (A : Nat → Prop) (b o : Nat) (x : Ac) (a1 : Option Addr) (k1 : Nat) (a2 : Option Addr) (k2 : Nat) (a3 : Option Addr) (k3 : Nat) : Prop where
  lt : b < w.heap.size
  c0 : w.cell? ⟨b, o, none⟩ = some (.int .i64 x.op)
  c1 : w.cell? ⟨b, o + 1, none⟩ = some (.int .i64 x.n)
  c2 : w.cell? ⟨b, o + 2, none⟩ = some (.int .i64 x.m)
  c3 : w.cell? ⟨b, o + 3, none⟩ = some (.int .i64 x.at_)
  c4 : w.cell? ⟨b, o + 4, none⟩ = some (.slice a1 x.args.length k1)
  c5 : w.cell? ⟨b, o + 5, none⟩ = some (.slice a2 x.body.length k2)
  c6 : w.cell? ⟨b, o + 6, none⟩ = some (.slice a3 x.other.length k3)
  args' : DAt w A a1 x.args.length (ndsD x.args)
  body' : DAt w A a2 x.body.length (acsD x.body)
  other' : DAt w A a3 x.other.length (acsD x.other)
  w0 : (Lit.int .i64 x.op).wf = true
  w1 : (Lit.int .i64 x.n).wf = true
  w2 : (Lit.int .i64 x.m).wf = true
  w3 : (Lit.int .i64 x.at_).wf = true
theorem DAt.ac {w : World} {A : Nat → Prop} {a : Option Addr} {l : List Ac} (h : DAt w A a l.length (acsD l)) (i : Nat) (hi : i < l.length) : ∃ b off a1 k1 a2 k2 a3 k3, a = some ⟨b, off, none⟩ ∧ AcAt w A b (off + i * 7) l[i] a1 k1 a2 k2 a3 k3 := by
  obtain ⟨b, off, ha, hb, hc⟩ := h.cell (by omega)
  generalize hx : l[i] = x
  obtain ⟨op, n, m, at_, args, body, other⟩ := x
  have g : ∀ j d, j < 7 → (Ac.mk op n m at_ args body other).ds[j]? = some d → ∃ v, w.cell? ⟨b, off + i * 7 + j, none⟩ = some v ∧ DVal w A d v := fun j d hj hd => by
    rw [Nat.add_assoc]; exact hc (i * 7 + j) d ((acsD_get l i hi j hj).trans (by rw [hx]; exact hd))
  obtain ⟨v0, q0, d0⟩ := g 0 (.int op) (by omega) (by simp [Ac.ds])
  obtain ⟨v1, q1, d1⟩ := g 1 (.int n) (by omega) (by simp [Ac.ds])
  obtain ⟨v2, q2, d2⟩ := g 2 (.int m) (by omega) (by simp [Ac.ds])
  obtain ⟨v3, q3, d3⟩ := g 3 (.int at_) (by omega) (by simp [Ac.ds])
  obtain ⟨v4, q4, d4⟩ := g 4 (.list args.length (ndsD args)) (by omega) (by simp [Ac.ds])
  obtain ⟨v5, q5, d5⟩ := g 5 (.list body.length (acsD body)) (by omega) (by simp [Ac.ds])
  obtain ⟨v6, q6, d6⟩ := g 6 (.list other.length (acsD other)) (by omega) (by simp [Ac.ds])
  obtain ⟨rfl, w0⟩ := dnum_of d0
  obtain ⟨rfl, w1⟩ := dnum_of d1
  obtain ⟨rfl, w2⟩ := dnum_of d2
  obtain ⟨rfl, w3⟩ := dnum_of d3
  obtain ⟨a1, k1, rfl, h1⟩ := dlist_of d4
  obtain ⟨a2, k2, rfl, h2⟩ := dlist_of d5
  obtain ⟨a3, k3, rfl, h3⟩ := dlist_of d6
  exact ⟨b, off, a1, k1, a2, k2, a3, k3, ha, hb, q0, q1, q2, q3, q4, q5, q6, h1, h2, h3, w0, w1, w2, w3⟩
structure PtAt (w : World) (A : Nat → Prop) (b o : Nat) (x : Pt) (a1 : Option Addr) (k1 : Nat) : Prop where
  lt : b < w.heap.size
  c0 : w.cell? ⟨b, o, none⟩ = some (.int .i64 x.params)
  c1 : w.cell? ⟨b, o + 1, none⟩ = some (.int .i64 x.locals)
  c2 : w.cell? ⟨b, o + 2, none⟩ = some (.slice a1 x.body.length k1)
  body' : DAt w A a1 x.body.length (acsD x.body)
  w0 : (Lit.int .i64 x.params).wf = true
  w1 : (Lit.int .i64 x.locals).wf = true
theorem DAt.pt {w : World} {A : Nat → Prop} {a : Option Addr} {l : List Pt} (h : DAt w A a l.length (ptsD l)) (i : Nat) (hi : i < l.length) : ∃ b off a1 k1, a = some ⟨b, off, none⟩ ∧ PtAt w A b (off + i * 3) l[i] a1 k1 := by
  obtain ⟨b, off, ha, hb, hc⟩ := h.cell (by omega)
  generalize hx : l[i] = x
  obtain ⟨params, locals, body⟩ := x
  have g : ∀ j d, j < 3 → (Pt.mk params locals body).ds[j]? = some d → ∃ v, w.cell? ⟨b, off + i * 3 + j, none⟩ = some v ∧ DVal w A d v := fun j d hj hd => by
    rw [Nat.add_assoc]; exact hc (i * 3 + j) d ((flat_get Pt.ds 3 (fun _ => rfl) l i hi j hj).trans (by rw [hx]; exact hd))
  obtain ⟨v0, q0, d0⟩ := g 0 (.int params) (by omega) (by simp [Pt.ds])
  obtain ⟨v1, q1, d1⟩ := g 1 (.int locals) (by omega) (by simp [Pt.ds])
  obtain ⟨v2, q2, d2⟩ := g 2 (.list body.length (acsD body)) (by omega) (by simp [Pt.ds])
  obtain ⟨rfl, w0⟩ := dnum_of d0
  obtain ⟨rfl, w1⟩ := dnum_of d1
  obtain ⟨a1, k1, rfl, h1⟩ := dlist_of d2
  exact ⟨b, off, a1, k1, ha, hb, q0, q1, q2, h1, w0, w1⟩
structure UnAt (w : World) (A : Nat → Prop) (b o : Nat) (x : Un) (a1 : Option Addr) (k1 : Nat) (a2 : Option Addr) (k2 : Nat) (a3 : Option Addr) (k3 : Nat) : Prop where
  lt : b < w.heap.size
  c0 : w.cell? ⟨b, o, none⟩ = some (.string x.name)
  c1 : w.cell? ⟨b, o + 1, none⟩ = some (.slice a1 x.uses.length k1)
  c2 : w.cell? ⟨b, o + 2, none⟩ = some (.int .i64 x.data)
  c3 : w.cell? ⟨b, o + 3, none⟩ = some (.slice a2 x.parts.length k2)
  c4 : w.cell? ⟨b, o + 4, none⟩ = some (.slice a3 x.main.length k3)
  uses' : DAt w A a1 x.uses.length (strsD x.uses)
  parts' : DAt w A a2 x.parts.length (ptsD x.parts)
  main' : DAt w A a3 x.main.length (acsD x.main)
  w0 : x.name.size ≤ maxLen
  w2 : (Lit.int .i64 x.data).wf = true
theorem DAt.un {w : World} {A : Nat → Prop} {a : Option Addr} {l : List Un} (h : DAt w A a l.length (unsD l)) (i : Nat) (hi : i < l.length) : ∃ b off a1 k1 a2 k2 a3 k3, a = some ⟨b, off, none⟩ ∧ UnAt w A b (off + i * 5) l[i] a1 k1 a2 k2 a3 k3 := by
  obtain ⟨b, off, ha, hb, hc⟩ := h.cell (by omega)
  generalize hx : l[i] = x
  obtain ⟨name, uses, data, parts, main⟩ := x
  have g : ∀ j d, j < 5 → (Un.mk name uses data parts main).ds[j]? = some d → ∃ v, w.cell? ⟨b, off + i * 5 + j, none⟩ = some v ∧ DVal w A d v := fun j d hj hd => by
    rw [Nat.add_assoc]; exact hc (i * 5 + j) d ((flat_get Un.ds 5 (fun _ => rfl) l i hi j hj).trans (by rw [hx]; exact hd))
  obtain ⟨v0, q0, d0⟩ := g 0 (.str name) (by omega) (by simp [Un.ds, ptsD])
  obtain ⟨v1, q1, d1⟩ := g 1 (.list uses.length (strsD uses)) (by omega) (by simp [Un.ds, ptsD])
  obtain ⟨v2, q2, d2⟩ := g 2 (.int data) (by omega) (by simp [Un.ds, ptsD])
  obtain ⟨v3, q3, d3⟩ := g 3 (.list parts.length (ptsD parts)) (by omega) (by simp [Un.ds, ptsD])
  obtain ⟨v4, q4, d4⟩ := g 4 (.list main.length (acsD main)) (by omega) (by simp [Un.ds, ptsD])
  obtain ⟨rfl, w0⟩ := dstr_of d0
  obtain ⟨a1, k1, rfl, h1⟩ := dlist_of d1
  obtain ⟨rfl, w2⟩ := dnum_of d2
  obtain ⟨a2, k2, rfl, h2⟩ := dlist_of d3
  obtain ⟨a3, k3, rfl, h3⟩ := dlist_of d4
  exact ⟨b, off, a1, k1, a2, k2, a3, k3, ha, hb, q0, q1, q2, q3, q4, h1, h2, h3, w0, w2⟩

/- What a checker knows: its own unit's numbers and parts, how many uses there are, what may be meant of them, how many locals there are. -/
structure Ck where
  data : Int
  uses : Nat
  parts : List Pt
  num : Int → Int → Int → Bool
  prt : Int → Int → Int → Bool
  locals : Int
def useB (c : Ck) (m : Int) : Bool := decide (1 ≤ m ∧ m ≤ c.uses)
def lieB (size at_ n : Int) : Bool := decide (0 ≤ at_ ∧ at_ + n ≤ size)
def numB (c : Ck) (m at_ n : Int) : Bool := if m = 0 then lieB c.data at_ n else useB c m && c.num m at_ n
def hasP (l : List Pt) (at_ k : Int) : Bool := decide (0 ≤ at_) && (match l[at_.toNat]? with | some p => decide (p.params = k) | none => false)
def prtB (c : Ck) (m at_ k : Int) : Bool := if m = 0 then hasP c.parts at_ k else useB c m && c.prt m at_ k
def arrB (c : Ck) (n m at_ : Int) : Bool := decide (1 ≤ n ∧ n ≤ 32) && numB c m at_ n
def locB (c : Ck) (at_ : Int) : Bool := decide (0 ≤ at_ ∧ at_ < c.locals)
def argsOf (op : Int) : Int := if op = 2 then 0 else if op = 6 then 1 else if 7 ≤ op ∧ op ≤ 15 then 2 else -1
def nodeA (c : Ck) (x : Nd) : Bool :=
  if x.op = 3 then decide (x.args.length = 0) && (decide (x.n = 0) && numB c x.m x.at_ 1)
  else if x.op = 4 then decide (x.args.length = 1) && arrB c x.n x.m x.at_
  else if x.op = 5 then decide (x.n = 0) && prtB c x.m x.at_ x.args.length
  else if x.op = 16 then decide (x.args.length = 0) && (decide (x.n = 0) && (decide (x.m = 0) && locB c x.at_))
  else if x.op = 1 then decide (x.args.length = 0) && (decide (0 ≤ x.n ∧ x.n ≤ 1099511627775) && (decide (x.m = 0) && decide (x.at_ = 0)))
  else decide ((x.args.length : Int) = argsOf x.op) && (decide (x.n = 0) && (decide (x.m = 0) && decide (x.at_ = 0)))
def ndsB (c : Ck) : Nat → List Nd → Bool
  | 0, l => decide (l.length = 0)
  | k + 1, l => l.all fun x => nodeA c x && ndsB c k x.args
def actA (c : Ck) (a : Ac) : Bool :=
  if a.op = 1 then decide (a.args.length = 1) && (decide (a.n = 0) && (if a.m = -1 then locB c a.at_ else numB c a.m a.at_ 1))
  else if a.op = 2 then decide (a.args.length = 2) && arrB c a.n a.m a.at_
  else if a.op = 3 then decide (a.n = 0) && prtB c a.m a.at_ a.args.length
  else if 4 ≤ a.op ∧ a.op ≤ 7 then decide (a.args.length = 1) && (decide (a.n = 0) && (decide (a.m = 0) && decide (a.at_ = 0)))
  else false
def acsB (c : Ck) : Nat → List Ac → Bool
  | 0, _ => false
  | k + 1, l => decide (l.length ≤ 10) && l.all fun a => actA c a && (ndsB c 6 a.args &&
      (if a.op = 4 then acsB c k a.body && acsB c k a.other else if a.op = 5 then acsB c k a.body && decide (a.other.length = 0) else decide (a.body.length = 0) && decide (a.other.length = 0)))
def ptB (p : Pt) : Bool := decide (0 ≤ p.params ∧ p.params ≤ 3) && decide (0 ≤ p.locals ∧ p.locals ≤ 4)
def headB (u : Un) : Bool := decide (chkM ⟨u.name, u.uses, [], [], []⟩ = 0) && (u.parts.all ptB && (decide (0 ≤ u.data ∧ u.data ≤ 512) && decide (u.parts.length ≤ 6)))
def ckOf (u : Un) (num prt : Int → Int → Int → Bool) (locals : Int) : Ck := ⟨u.data, u.uses.length, u.parts, num, prt, locals⟩
def holdB (u : Un) (num prt : Int → Int → Int → Bool) : Bool :=
  headB u && (u.parts.all (fun p => acsB (ckOf u num prt (p.params + p.locals)) 6 p.body) && acsB (ckOf u num prt 0) 6 u.main)
end Go.Proofs.YtndkhgakfodldaaGreatDoor
