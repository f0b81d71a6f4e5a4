/-
  The document's SortOf.
-/
import Derived.Test.YtplkbngnnaogkaaRk
namespace Go.Proofs.Ytplkbngnnaogkaa
open Go.RowKit Go.Maps

theorem ix_T {L : List Mo} (hn : (nmL L).Nodup) {t : Nat} (h : t < L.length) : ixL L (nmT L t) = t := by
  unfold ixL
  rw [nmT_at L t h, idx_of hn (nm_at L t h)]
theorem done_set {L : List Mo} (hn : (nmL L).Nodup) (S : List Nm) {t0 : Nat} (h0 : t0 < L.length) (t : Nat) (ht : t < L.length) : (S ++ [nmT L t0]).contains (nmT L t) = if t = t0 then true else S.contains (nmT L t) := by
  by_cases e : t = t0
  · subst e; simp
  · rw [if_neg e, Bool.eq_iff_iff]
    simp only [List.contains_iff_mem, List.mem_append, List.mem_singleton]
    exact ⟨fun h => h.elim id (fun h => absurd (nmT_inj hn ht h0 h) e), Or.inl⟩
set_option maxRecDepth 100000 in
set_option maxHeartbeats 4000000 in
theorem SortOf_any (L : List Mo) (a : Option Addr) (cap : Nat) (w : World) (hD : DAt w Tt a L.length (mosD L)) (hS : ∀ m ∈ L, Small m) :
    Calls Try.prog 8 #[.slice a L.length cap] w fun e w' => sortEnd L e w' ∧ Below w.heap.size w w' := by
  have hbd := hD.bound
  have HD := hid hD
  have HS := hid hS
  clear hD hS
  go_enter Try.func8, Try.ntmps8
  go_wp2_with fail
  refine (OrderError_any L a cap _ HD.out HS.out).mono ?_
  rintro e w1 ⟨rfl, hb1⟩
  by_cases he : ordE L = 0
  · obtain ⟨h4, hal, hn, hu⟩ := ordE_zero he
    have HE := hid he
    rw [he]
    clear he hal
    have HN := hid hn
    have HU := hid hu
    clear hn hu
    have hmk := make_fls L.length (by omega) w1
    have HF0 : Hid (Fl (w1.alloc (.cells (fls L.length) 4)) w1.heap.size L.length (fun t => ([] : List Nm).contains (nmT L t))) := (fls_row w1 L.length).ext (fun _ _ => by simp)
    have HB0 : Hid (Below w.heap.size w (w1.alloc (.cells (fls L.length) 4))) := hb1.alloc hb1.size _
    have hz1 := hb1.size
    have HI : Hid (∃ i0, Try.prog.info? 3 = some i0 ∧ i0.zero = some (.int .i64 0) ∧ i0.size = 1 ∧ i0.bytes = 8) := info_parts Try.infoInt
    clear hb1
    generalize hdb : w1.heap.size = db at *
    go_wp2_with fail
    go_loopg [5, 7, 8, 9, 10] L.length (fun g v _ _ _ _ wr => ∃ S : List Nm, S.length + g = L.length ∧ (∀ x ∈ S, x ∈ nmL L) ∧ Hid (Og.sortN (nsL L) (uL L) g S = sortL L) ∧ wr.ownsRow w.heap.size 3 1 v S.length ((S.map (ixL L)).map (.int .i64)) ∧ v.ownBlock ≠ some db ∧ Fl wr db L.length (fun t => S.contains (nmT L t)) ∧ Below w.heap.size w wr)
    case atStart => exact ⟨[], by simp, by simp, rfl, World.ownsRow_nil _ _ _ _, by simp [Value.ownBlock], HF0.out, HB0.out⟩
    case round =>
      clear HF0 HB0 hmk
      obtain ⟨S, hSg, hS, HG, hrow, hne, hfl, hbx⟩ := hrel
      have HIn := hid (IntsIn.of_row hrow (by simp))
      have HO := hid hrow
      have HL := hid hrow.lt
      have HNe := hid hne
      have HFl := hid hfl
      have HS := hid hS
      obtain ⟨sa, sc, e5, hx⟩ := HIn.out
      subst e5
      clear hx hrow hne hfl hS
      rw [List.length_map] at *
      cases gk with
      | zero =>
        have hSL : ¬ ((S.length : Int) < (L.length : Int)) := by omega
        have HR : Hid (sortL L = some S) := by
          show _ = _
          rw [← HG.out]; rfl
        go_wp2_with fail
        go_ret2
        exact ⟨Or.inr (Or.inr ⟨S, _, HE.out, HR.out, rfl, HIn.out⟩), hbx⟩
      | succ g =>
        have hSL : S.length < L.length := by omega
        clear HIn
        go_wp2_with fail
        go_loopw [7, 8, 9, 10] (fun b i _ _ wy => ∃ (j : Nat) (bi : Int), j ≤ L.length ∧ b = .int .i64 bi ∧ i = .int .i64 j ∧ Hid (Best L S j bi) ∧ Below wr.heap.size wr wy) (fun _ i _ _ _ => L.length - (intOf i).toNat)
        case atStart => exact ⟨0, -1, Nat.zero_le _, rfl, rfl, Best.start _ _, Below.refl _ _⟩
        case round =>
          obtain ⟨j, bi, hj, rfl, rfl, HBe, hby⟩ := hrel
          obtain ⟨iS, hiS⟩ : ∃ iS : Nat → Bool, ∀ t, iS t = S.contains (nmT L t) := ⟨_, fun _ => rfl⟩
          have HiS := hid hiS
          have HFy : Hid (Fl wr db L.length iS) := (HFl.out.later hby).ext (fun t _ => hiS t)
          clear hiS
          by_cases hlt : j < L.length
          · obtain ⟨b, off, v, a1, c1, a2, c2, a3, c3, a4, c4, rfl, hlb, hM, k0, k1, k2, k3, k4⟩ := (HD.out.later (thenB hbx hby)).mo j hlt
            have HUs := hid hM.uses
            have hub := hM.uses.bound
            have hdj := HFy.out.cell j hlt
            have hdz := HFy.out.lt
            clear hM k2 k3 k4
            obtain ⟨rK, hrK⟩ : ∃ rK : Nat → Bool, ∀ k, rK k = (!iS j && (L[j].uses.take k).all (fun u => S.contains u.data.toList)) := ⟨_, fun _ => rfl⟩
            have HrK := hid hrK
            have hr0 : (!iS j) = rK 0 := by rw [hrK]; simp
            clear hrK
            go_wp2_with fail
            clear hr0
            go_loopw [9, 10] (fun r i wq => ∃ k : Nat, k ≤ L[j].uses.length ∧ i = .int .i64 k ∧ r = .bool (rK k) ∧ wq = wr) (fun _ i _ => L[j].uses.length - (intOf i).toNat)
            case atStart => exact ⟨0, Nat.zero_le _, rfl, rfl, rfl⟩
            case round =>
              obtain ⟨k, hk, rfl, rfl, hw⟩ := hrel
              obtain rfl := hw
              by_cases hkl : k < L[j].uses.length
              · obtain ⟨ub, uo, rfl, hul, huc, hus⟩ := HUs.out.str k hkl
                have hin : (nmL L).contains L[j].uses[k].data.toList = true := by
                  rw [List.contains_iff_mem]; exact uses_in HU.out j hlt _ (List.getElem_mem hkl)
                have HMn := hid (moduleNamed_any L (some ⟨b, off, none⟩) cap L[j].uses[k] _ (HD.out.later (thenB hbx hby)) HN.out)
                rw [mn_pos hin] at HMn
                have hmem := List.contains_iff_mem.1 hin
                have hix := ix_lt hmem
                have HIx : Hid (iS ((nmL L).idxOf L[j].uses[k].data.toList) = S.contains L[j].uses[k].data.toList) := by
                  show _ = _
                  rw [HiS.out, nmT_ix hmem]
                have HK : Hid (rK (k + 1) = (rK k && S.contains L[j].uses[k].data.toList)) := by
                  show _ = _
                  rw [HrK.out, HrK.out, all_snoc _ _ k hkl, Bool.and_assoc]
                have hdx := HFy.out.cell _ hix
                clear hin hmem
                cases hr : rK k with
                | false =>
                  have HT : Hid (rK (k + 1) = false) := by show _ = _; rw [HK.out, hr]; rfl
                  clear hdx HMn
                  go_wp2_with fail
                  go_roundw
                  case rel => exact ⟨k + 1, by omega, by go_num, by rw [HT.out], by first | rfl | trivial⟩
                  case measure => simp [intOf]; omega
                | true =>
                  have HT : Hid (rK (k + 1) = iS ((nmL L).idxOf L[j].uses[k].data.toList)) := by show _ = _; rw [HK.out, hr, HIx.out]; rfl
                  clear HK HIx
                  generalize (nmL L).idxOf L[j].uses[k].data.toList = ix at *
                  go_wp2_with fail
                  refine HMn.out.mono ?_
                  rintro e w6 ⟨rfl, rfl⟩
                  go_wp2_with fail
                  go_roundw
                  case rel => exact ⟨k + 1, by omega, by go_num, by rw [HT.out], by first | rfl | trivial⟩
                  case measure => simp [intOf]; omega
              · have HFr : Hid (rK k = Og.freeB (uL L) S (nmT L j)) := by
                  show _ = _
                  rw [HrK.out, HiS.out, free_at HN.out S j hlt, List.take_of_length_le (by omega)]
                clear HUs
                cases hf : rK k with
                | false =>
                  have HNx : Hid (Best L S (j + 1) bi) := HBe.out.no (by rw [← HFr.out]; exact hf)
                  go_wp2_with fail
                  go_quiet ((fail))
                  go_wp2_with fail
                  go_roundw
                  case rel => exact ⟨j + 1, bi, by omega, rfl, by go_num, HNx, below_drewN hby _⟩
                  case measure => simp [intOf]; omega
                | true =>
                  have HFt : Hid (Og.freeB (uL L) S (nmT L j) = true) := by show _ = _; rw [← HFr.out]; exact hf
                  rcases HBe.out with ⟨e, _⟩ | ⟨t0, ht0, _, e, _⟩
                  · subst e
                    have HNx : Hid (Best L S (j + 1) (j : Int)) := HBe.out.first hlt HFt.out
                    go_wp2_with fail
                    go_quiet ((fail))
                    go_wp2_with fail
                    go_roundw
                    case rel => exact ⟨j + 1, (j : Int), by omega, rfl, by go_num, HNx, below_drewN hby _⟩
                    case measure => simp [intOf]; omega
                  · subst e
                    obtain ⟨b2, off2, v2, a12, c12, a22, c22, a32, c32, a42, c42, e2, _, _, kk0, _⟩ := (HD.out.later (thenB hbx hby)).mo t0 ht0
                    cases e2
                    have ht1 : ((t0 : Nat) : Int) < (L.length : Int) := by omega
                    have ht2 : ((j : Nat) : Int) < (L.length : Int) := by omega
                    have hd0 : decide (((t0 : Nat) : Int) < 0) = false := by simp
                    have HLs : Hid (Op.bytesLess L[j].name.toList (L[t0]'ht0).name.toList = decide (nmT L j < nmT L t0)) := by
                      show _ = _
                      rw [less_eq, nmT_at L j hlt, nmT_at L t0 ht0]
                    cases hl : Op.bytesLess L[j].name.toList (L[t0]'ht0).name.toList with
                    | true =>
                      have HNx : Hid (Best L S (j + 1) (j : Int)) := HBe.out.less hlt HFt.out (by have := HLs.out; rw [hl] at this; exact of_decide_eq_true this.symm)
                      clear HLs
                      go_wp2_with fail
                      go_quiet ((fail))
                      go_wp2_with fail
                      go_roundw
                      case rel => exact ⟨j + 1, (j : Int), by omega, rfl, by go_num, HNx, below_drewN hby _⟩
                      case measure => simp [intOf]; omega
                    | false =>
                      have HNx : Hid (Best L S (j + 1) (t0 : Int)) := HBe.out.more (by have := HLs.out; rw [hl] at this; exact of_decide_eq_false this.symm)
                      clear HLs
                      go_wp2_with fail
                      go_quiet ((fail))
                      go_wp2_with fail
                      go_roundw
                      case rel => exact ⟨j + 1, (t0 : Int), by omega, rfl, by go_num, HNx, below_drewN hby _⟩
                      case measure => simp [intOf]; omega
          · have hje : j = L.length := by omega
            subst hje
            clear HFy HiS iS
            rcases HBe.out with ⟨e, _⟩ | ⟨t0, ht0, _, e, _⟩
            · subst e
              have HR : Hid (sortL L = none) := by
                have h1 := HG.out
                simp only [Og.sortN, HBe.out.none] at h1
                exact h1.symm
              go_wp2_with fail
              go_ret2
              exact ⟨Or.inr (Or.inl ⟨HE.out, HR.out, rfl⟩), thenB hbx hby⟩
            · subst e
              have hsm := HBe.out.some HN.out
              have HX : Hid (Og.sortN (nsL L) (uL L) g (S ++ [nmT L t0]) = sortL L) := by
                have h1 := HG.out
                simp only [Og.sortN, hsm.2] at h1
                exact h1
              clear hsm
              have hcy := (HFl.out.later hby).cell t0 ht0
              have hfy := (HFl.out.later hby).fz t0
              have hzy := (HFl.out.later hby).lt
              have HF2 : Hid (Fl (wr.setCell ⟨db, t0, none⟩ (.bool true)) db L.length (fun t => (S ++ [nmT L t0]).contains (nmT L t))) := (HFl.out.later hby).set t0 ht0 (fun t ht => done_set HN.out S ht0 t ht)
              have hb2 : Below w.heap.size w (wr.setCell ⟨db, t0, none⟩ (.bool true)) := (thenB hbx hby).setCell (p := ⟨db, t0, none⟩) hz1 _
              have HO2 : Hid ((wr.setCell ⟨db, t0, none⟩ (.bool true)).ownsRow w.heap.size 3 1 (.slice sa S.length sc) S.length ((S.map (ixL L)).map (.int .i64))) := (ownsRow_later HO.out hby).kept (put_grown _ _ _ _) (Or.inr HNe.out)
              have ht1 : ((t0 : Nat) : Int) < (L.length : Int) := by omega
              have hsz : w.heap.size ≤ (wr.setCell ⟨db, t0, none⟩ (.bool true)).heap.size := hb2.size
              have hszs : (wr.setCell ⟨db, t0, none⟩ (.bool true)).heap.size = wr.heap.size := by simp [World.setCell]
              obtain ⟨i0, hi0, hz0, hz1', hz2⟩ := HI.out
              have HL2 := hid (fun k (hk : (Value.slice sa S.length sc).ownBlock = some k) => (HL.out k hk).1)
              clear HL HO HFl HBe HG
              go_upto_region 21 with fail
              generalize hW2 : wr.setCell ⟨db, t0, none⟩ (.bool true) = W2 at *
              have hdz2 : db < W2.heap.size := HF2.out.lt
              clear hW2 hcy hfy hzy hszs
              go_wp2_with (at_builtin; refine wpList_append_lies _ rfl _ _ 23 rfl w.heap.size 3 i0 _ 1 8 Try.underlying23 hi0 hz0 hz1' hz2 rfl (by decide) _ S.length ((S.map (ixL L)).map (.int .i64)) rfl (HO2.out.alloc _) _ 1 1 [.int .i64 (t0 : Int)] rfl rfl (one_new _ _ _ _ (by simp)) (by simp [Value.oneCell']) (by omega) (by unfold maxLen; omega) (by omega) (by simp; omega) _ rfl ?_; intro gb cp w8 hown8 hg8 hat8 hlt8)
              have hg : W2.grownBy w8 (Value.slice sa S.length sc).ownBlock := (World.grownBy_alloc W2 _ _).trans hg8
              have hb8 : Below w.heap.size w w8 := hb2.grown hg hsz HL2.out
              have HF8 : Hid (Fl w8 db L.length (fun t => (S ++ [nmT L t0]).contains (nmT L t))) := HF2.out.kept hg (fun e => HNe.out e.symm)
              have hne8 : (Value.slice (some ⟨gb, 0, none⟩) (S.length + 1) cp).ownBlock ≠ some db := by
                intro e
                have e' : gb = db := by simpa [Value.ownBlock] using e
                rcases hat8 with h | h
                · have h' : (Value.slice sa S.length sc).ownBlock = some gb := h
                  exact HNe.out (by rw [h', e'])
                · simp at h; omega
              have HW : Hid (w8.ownsRow w.heap.size 3 1 (.slice (some ⟨gb, 0, none⟩) (S.length + 1) cp) (S ++ [nmT L t0]).length (((S ++ [nmT L t0]).map (ixL L)).map (.int .i64))) := by
                rw [List.length_append, List.map_append, List.map_append]
                simp only [List.map_cons, List.map_nil, ix_T HN.out ht0]
                exact hown8
              have hmem := nmT_mem L t0 ht0
              clear hown8 hg8 hat8 hg
              go_roundg g
              case measure => omega
              case rel => exact ⟨S ++ [nmT L t0], by simp; omega, fun x hx => by
                rcases List.mem_append.1 hx with h | h
                · exact HS.out x h
                · simp at h; rw [h]; exact hmem, HX.out, HW.out, hne8, HF8.out, hb8⟩
  · have hne : (ordE L == 0) = false := by simpa using he
    go_wp2_with fail
    go_ret2
    exact ⟨Or.inl ⟨he, rfl⟩, hb1⟩
end Go.Proofs.Ytplkbngnnaogkaa
