/-
  moduleLook, level 2.
-/
import Derived.Test.YtcekpobmbmnplaaGreatDoorRe
namespace Go.Proofs.YtcekpobmbmnplaaGreatDoor
open Go.RowKit Go.Maps
set_option maxRecDepth 100000 in
set_option maxHeartbeats 4000000 in
theorem moduleLook2_any (m : Mo) (v : Value) (a1 : Option Addr) (c1 : Nat) (a2 : Option Addr) (c2 : Nat) (a3 : Option Addr) (c3 : Nat) (a4 : Option Addr) (c4 : Nat) (w : World) (hM : MoAt w Tt m v a1 c1 a2 c2 a3 c3 a4 c4) (hsm : Small m) :
    Calls Tryz.prog 23 #[v, .int .i64 2] w fun e w' => e = .returned (.bool (mL2 m)) ∧ Below w.heap.size w w' := by
  obtain rfl := hM.val
  have hn1 := hM.uses.bound
  have hn2 := hM.decls.bound
  have HP := hid (procs_bound hM.procs)
  have hn3 := HP.out
  have HM := hid hM
  have HSm := hid hsm
  clear hM hsm
  have HBx : Hid (Blk (w.alloc (.cells #[.string m.name, .slice a1 m.uses.length c1, .slice a2 m.decls.length c2, .slice a3 m.procs.length c3, .slice a4 m.main.length c4] 27)) w.heap.size [.string m.name, .slice a1 m.uses.length c1, .slice a2 m.decls.length c2, .slice a3 m.procs.length c3, .slice a4 m.main.length c4]) := Blk.new w _ _
  have HB0 : Hid (Below w.heap.size w (w.alloc (.cells #[.string m.name, .slice a1 m.uses.length c1, .slice a2 m.decls.length c2, .slice a3 m.procs.length c3, .slice a4 m.main.length c4] 27))) := al1 _ _
  have HR : Hid (∀ {b : Bool}, ((decide (3 < m.uses.length) || (decide (10 < m.decls.length) || decide (6 < m.procs.length))) || (m.procs.any pB2 || bL 2 6 m.main)) = b → b = mL2 m) := fun h => by rw [← h]; rfl
  by_cases t1 : 3 < m.uses.length
  · go_enter Tryz.func23, Tryz.ntmps23
    go_wp2_with fail
    go_ret
    exact ⟨ret_bool (HR.out (by simp [t1])), HB0.out⟩
  · by_cases t2 : 10 < m.decls.length
    · go_enter Tryz.func23, Tryz.ntmps23
      go_wp2_with fail
      go_ret
      exact ⟨ret_bool (HR.out (by simp [t2])), HB0.out⟩
    · by_cases t3 : 6 < m.procs.length
      · go_enter Tryz.func23, Tryz.ntmps23
        go_wp2_with fail
        go_ret
        exact ⟨ret_bool (HR.out (by simp [t3])), HB0.out⟩
      · have HTop : Hid ((decide (3 < m.uses.length) || (decide (10 < m.decls.length) || decide (6 < m.procs.length))) = false) := by show _ = _; simp [t1, t2, t3]
        go_enter Tryz.func23, Tryz.ntmps23
        go_wp2_with fail
        go_loopw [5] (fun i wr => ∃ j : Nat, j ≤ m.uses.length ∧ i = .int .i64 j ∧ Below w.heap.size w wr ∧ Blk wr w.heap.size [.string m.name, .slice a1 m.uses.length c1, .slice a2 m.decls.length c2, .slice a3 m.procs.length c3, .slice a4 m.main.length c4]) (fun i _ => m.uses.length - (intOf i).toNat)
        case atStart => exact ⟨0, Nat.zero_le _, rfl, HB0.out, HBx.out⟩
        case round =>
          clear HB0 HBx
          obtain ⟨j, hj, rfl, hb, hB⟩ := hrel
          obtain ⟨m0, m1, m2, m3, m4, mz⟩ := hB.c5
          have HB := hid hB
          clear hB 
          by_cases hlt : j < m.uses.length
          · skip
            go_wp2_with fail
            go_roundw
            case rel => exact ⟨j + 1, by omega, by go_num, hb, HB.out⟩
            case measure => simp [intOf]; omega
          · skip
            go_wp2_with fail
            go_loopw [6, 7] (fun i _ wr => ∃ j : Nat, j ≤ m.decls.length ∧ i = .int .i64 j ∧ Below w.heap.size w wr ∧ Blk wr w.heap.size [.string m.name, .slice a1 m.uses.length c1, .slice a2 m.decls.length c2, .slice a3 m.procs.length c3, .slice a4 m.main.length c4]) (fun i _ _ => m.decls.length - (intOf i).toNat)
            case atStart => exact ⟨0, Nat.zero_le _, rfl, hb, HB.out⟩
            case round =>
              clear m0 m1 m2 m3 m4 mz HB hb hlt hj
              obtain ⟨j, hj, rfl, hb, hB⟩ := hrel
              obtain ⟨m0, m1, m2, m3, m4, mz⟩ := hB.c5
              have HB := hid hB
              clear hB 
              by_cases hlt : j < m.decls.length
              · obtain ⟨b, off, rfl, hx⟩ := (HM.out.decls.later hb).de j hlt
                have hc0 := hx.c0
                have hc1 := hx.c1
                have hc2 := hx.c2
                have hc3 := hx.c3
                have hlb := hx.lt
                clear hx
                go_wp2_with fail
                go_roundw
                case rel => exact ⟨j + 1, by omega, by go_num, thenB hb (al1 _ _), HB.out.later (al1 _ _)⟩
                case measure => simp [intOf]; omega
              · skip
                go_wp2_with fail
                go_loopw [8, 9, 10, 11] (fun i _ _ _ wr => ∃ j : Nat, j ≤ m.procs.length ∧ i = .int .i64 j ∧ (m.procs.take j).any pB2 = false ∧ Below w.heap.size w wr ∧ Blk wr w.heap.size [.string m.name, .slice a1 m.uses.length c1, .slice a2 m.decls.length c2, .slice a3 m.procs.length c3, .slice a4 m.main.length c4]) (fun i _ _ _ _ => m.procs.length - (intOf i).toNat)
                case atStart => exact ⟨0, Nat.zero_le _, rfl, rfl, hb, HB.out⟩
                case round =>
                  clear m0 m1 m2 m3 m4 mz HB hb hlt hj HP
                  obtain ⟨j, hj, rfl, hall, hb, hB⟩ := hrel
                  obtain ⟨m0, m1, m2, m3, m4, mz⟩ := hB.c5
                  have HB := hid hB
                  have HA := hid hall
                  clear hB hall
                  by_cases hlt : j < m.procs.length
                  · obtain ⟨b, off, a5, c5, a6, c6, a7, c7, rfl, hx⟩ := (HM.out.procs.later hb).pr j hlt
                    have hc0 := hx.c0
                    have hc1 := hx.c1
                    have hc2 := hx.c2
                    have hc3 := hx.c3
                    have hc4 := hx.c4
                    have hlb := hx.lt
                    have hnp := hx.params.bound
                    have hnl := hx.locals.bound
                    have HX := hid hx
                    clear hx
                    by_cases hp3 : 3 < m.procs[j].params.length
                    · have HF : Hid (m.procs.any pB2 = true) := any_at m.procs pB2 j hlt (by simp [pB2, hp3])
                      go_wp2_with fail
                      go_ret
                      exact ⟨ret_bool (HR.out (by rw [HF.out]; simp)), thenB hb (al1 _ _)⟩
                    · by_cases hp4 : 4 < m.procs[j].locals.length
                      · have HF : Hid (m.procs.any pB2 = true) := any_at m.procs pB2 j hlt (by simp [pB2, hp4])
                        go_wp2_with fail
                        go_ret
                        exact ⟨ret_bool (HR.out (by rw [HF.out]; simp)), thenB hb (al1 _ _)⟩
                      · skip
                        go_wp2_with fail
                        refine (blockLook_any Tt 2 (by omega) 6 (by omega) 1 (by omega) m.procs[j].body a7 c7 _ (HX.out.body.later (al1 _ _))).mono ?_
                        cases hrb : bL 2 6 m.procs[j].body with
                        | true =>
                          have HF : Hid (m.procs.any pB2 = true) := any_at m.procs pB2 j hlt (by simp [pB2, hrb])
                          rintro e w4 ⟨rfl, k4⟩
                          go_wp2_with fail
                          go_ret
                          exact ⟨ret_bool (HR.out (by rw [HF.out]; simp)), thenB hb (thenB (al1 _ _) k4)⟩
                        | false =>
                          rintro e w4 ⟨rfl, k4⟩
                          have B1 := (Blk.new wr #[.string m.procs[j].name, .bool m.procs[j].pub, .slice a5 m.procs[j].params.length c5, .slice a6 m.procs[j].locals.length c6, .slice a7 m.procs[j].body.length c7] 60).later k4
                          have hb4 : Below wr.heap.size wr w4 := thenB (al1 _ _) k4
                          clear k4 m0 m1 m2 m3 m4 mz 
                          obtain ⟨y0, y1, y2, y3, y4, yz⟩ := B1.c5
                          clear B1 y0 y1 y4 hc0 hc1 hc2 hc3 hc4 hlb
                          go_wp2_with fail
                          obtain ⟨v1, w5, ga, gc, w6, hr1, hB5, hr2, hB6, hcs⟩ := names_two w4 m.procs[j].params m.procs[j].locals a5 a6 c5 c6 (HX.out.params.later hb4) (HX.out.locals.later hb4) (HSm.out _ (List.getElem_mem hlt)).1 (HSm.out _ (List.getElem_mem hlt)).2
                          have S5 : Hid (w5.cell? ⟨wr.heap.size, 2, none⟩ = some (.slice a5 m.procs[j].params.length c5) ∧ w5.cell? ⟨wr.heap.size, 3, none⟩ = some (.slice a6 m.procs[j].locals.length c6)) := ⟨(hB5.cell (p := ⟨wr.heap.size, 2, none⟩) yz).trans y2, (hB5.cell (p := ⟨wr.heap.size, 3, none⟩) yz).trans y3⟩
                          have S6 : Hid (w6.cell? ⟨wr.heap.size, 2, none⟩ = some (.slice a5 m.procs[j].params.length c5) ∧ w6.cell? ⟨wr.heap.size, 3, none⟩ = some (.slice a6 m.procs[j].locals.length c6)) := ⟨(hB6.cell (p := ⟨wr.heap.size, 2, none⟩) yz).trans y2, (hB6.cell (p := ⟨wr.heap.size, 3, none⟩) yz).trans y3⟩
                          have hb6 : Below w.heap.size w w6 := thenB hb (thenB hb4 hB6)
                          have HB6 := hid (HB.out.later (thenB hb4 hB6))
                          have hsz6 : (m.procs[j].params ++ m.procs[j].locals).length ≤ 2097152 := by
                            have h1 := (HSm.out _ (List.getElem_mem hlt)).1
                            have h2 := (HSm.out _ (List.getElem_mem hlt)).2
                            simp; omega
                          clear hcs hB5
                          obtain ⟨al, hal⟩ : ∃ al, al = m.procs[j].params ++ m.procs[j].locals := ⟨_, rfl⟩
                          have HAl := hid hal
                          rw [← hal] at hsz6 hr2
                          clear hal
                          have HR1 := hid hr1
                          have HR2 := hid hr2
                          clear hr1 hr2
                          refine wp_region_held_drew (S := (fun W => W.cell? ⟨wr.heap.size, 2, none⟩ = some (.slice a5 m.procs[j].params.length c5) ∧ W.cell? ⟨wr.heap.size, 3, none⟩ = some (.slice a6 m.procs[j].locals.length c6))) (by kernel_rfl) ?_ (fun hHeld => ?_)
                          · (try dsimp only); go_keep
                          refine tk (i := 1) (oi := ⟨some 163, _, _, _, _, _⟩) (v := ?va1) rfl (by kernel_rfl) (fun _ _ _ h => h) (Or.inl ⟨by rfl, ?ha1⟩) hHeld ?ra1
                          case ha1 => (intro w hSw; (try dsimp only at hSw); go_simp; (try with_reducible rfl))
                          try simp only [Act.put, sx]
                          refine tk (i := 2) (oi := ⟨some 164, _, _, _, _, _⟩) (v := ?va2) rfl (by kernel_rfl) (fun _ _ _ h => h) (Or.inl ⟨by rfl, ?ha2⟩) hHeld ?ra2
                          case ha2 => (intro w hSw; (try dsimp only at hSw); go_simp; (try with_reducible rfl))
                          try simp only [Act.put, sx]
                          refine tk (i := 4) (oi := ⟨some 166, _, _, _, _, _⟩) (v := ?va4) rfl (by kernel_rfl) (fun _ _ _ h => h) (Or.inl ⟨by rfl, ?ha4⟩) hHeld ?ra4
                          case ha4 => (intro w hSw; (try dsimp only at hSw); go_simp; (try with_reducible rfl))
                          try simp only [Act.put, sx]
                          refine tk (i := 5) (oi := ⟨some 167, _, _, _, _, _⟩) (v := ?va5) rfl (by kernel_rfl) (fun _ _ _ h => h) (Or.inl ⟨by rfl, ?ha5⟩) hHeld ?ra5
                          case ha5 => (intro w hSw; (try dsimp only at hSw); go_simp; (try with_reducible rfl))
                          try simp only [Act.put, sx]
                          refine wpAnyH_ready (rs := [0]) (by kernel_rfl) (by simp) ?_
                          refine AllReadyH.cons rfl (fun K hK => ?_) AllReadyH.nil
                          go_simp
                          refine hK.out _ _ ?_ (fun hHeld => ?_)
                          · (try dsimp only); go_keep
                          clear hK K
                          refine wpAnyH_ready (rs := [3]) (by kernel_rfl) (by simp) ?_
                          refine AllReadyH.cons (o := ⟨some 165, _, _, _, _, _⟩) rfl (fun K hK => ?_) AllReadyH.nil
                          refine step_append_run rfl _ _ _ rfl _ _ _ rfl rfl HR1.out ?_
                          refine hK.out _ _ S5.out (fun hHeld => ?_)
                          clear hK K
                          try simp only [Act.put, sx]
                          refine wpAnyH_ready (rs := [6]) (by kernel_rfl) (by simp) ?_
                          refine AllReadyH.cons (o := ⟨some 168, _, _, _, _, _⟩) rfl (fun K hK => ?_) AllReadyH.nil
                          refine step_append_run rfl _ _ _ rfl _ _ _ rfl rfl HR2.out ?_
                          refine hK.out _ _ S6.out (fun hHeld => ?_)
                          clear hK K hHeld
                          have hHeld := S6.out
                          try simp only [Act.put, sx]
                          refine tk (i := 7) (oi := ⟨some 10, _, _, _, _, _⟩) (v := ?va7) rfl (by kernel_rfl) (fun _ _ _ h => h) (Or.inl ⟨by rfl, ?ha7⟩) hHeld ?ra7
                          case ha7 => (intro w hSw; (try dsimp only at hSw); go_simp; (try with_reducible rfl))
                          try simp only [Act.put, sx]
                          refine wpAnyH_done (by kernel_rfl) ?_ _
                          clear hHeld y2 y3 yz
                          go_wp2_with fail
                          go_loopw [11] (fun i wr => ∃ t : Nat, t ≤ al.length ∧ i = .int .i64 t ∧ Below w6.heap.size w6 wr) (fun i _ => al.length - (intOf i).toNat)
                          case atStart => exact ⟨0, Nat.zero_le _, rfl, Below.refl _ _⟩
                          case round =>
                            obtain ⟨t, ht, rfl, hbq⟩ := hrel
                            by_cases htl : t < al.length
                            · skip
                              go_wp2_with fail
                              go_roundw
                              case rel => exact ⟨t + 1, by omega, by go_num, hbq⟩
                              case measure => simp [intOf]; omega
                            · skip
                              have HT : Hid ((m.procs.take (j + 1)).any pB2 = false) := by
                                show _ = _
                                rw [any_snoc m.procs pB2 j hlt, HA.out]; simp [pB2, hrb, hp3, hp4]
                              go_wp2_with fail
                              go_roundw
                              case rel => exact ⟨j + 1, by omega, by go_num, HT.out, thenB hb6 hbq, HB6.out.later hbq⟩
                              case measure => simp [intOf]; omega
                  · have HPs : Hid (m.procs.any pB2 = false) := any_end HA.out hlt
                    go_wp2_with fail
                    refine (blockLook_any Tt 2 (by omega) 6 (by omega) 1 (by omega) m.main a4 c4 _ (HM.out.main.later hb)).mono ?_
                    rintro e w9 ⟨rfl, hb9⟩
                    go_wp2_with fail
                    go_ret
                    exact ⟨ret_bool (HR.out (by simp [HTop.out, HPs.out])), thenB hb hb9⟩
end Go.Proofs.YtcekpobmbmnplaaGreatDoor
