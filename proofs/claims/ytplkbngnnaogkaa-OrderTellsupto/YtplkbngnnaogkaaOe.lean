/-
  What Needs answers.
-/
import Derived.Test.YtplkbngnnaogkaaOd
namespace Go.Proofs.Ytplkbngnnaogkaa
open Go.RowKit Go.Maps Go.Sort Go.WideMaps

/- What a walk along the uses of one has brought into the set N: now it is M. -/
structure Gr (U : Nm → List Nm) (nm : Nm) (done N M : List Nm) : Prop where
  sub : ∀ x ∈ N, x ∈ M
  here : ∀ u ∈ done, u ∈ M
  shut : ∀ x ∈ M, x ∈ N ∨ ∀ u ∈ U x, u ∈ M
  reach : ∀ x ∈ M, x ∈ N ∨ Og.Reach U nm x
theorem Gr.start (U : Nm → List Nm) (nm : Nm) (N : List Nm) : Gr U nm [] N N := ⟨fun _ h => h, (fun _ h => by cases h), fun _ h => Or.inl h, fun _ h => Or.inl h⟩
theorem Gr.old {U : Nm → List Nm} {nm : Nm} {done N M : List Nm} (h : Gr U nm done N M) {u : Nm} (hu : u ∈ M) : Gr U nm (done ++ [u]) N M :=
  ⟨h.sub, fun x hx => (List.mem_append.1 hx).elim (fun hx => h.here x hx) (fun hx => by simp at hx; rw [hx]; exact hu), h.shut, h.reach⟩
theorem Gr.new {U : Nm → List Nm} {nm : Nm} {done N M K : List Nm} (h : Gr U nm done N M) {u : Nm} (hu : u ∈ U nm) (k : Gr U u (U u) (M ++ [u]) K) : Gr U nm (done ++ [u]) N K := by
  have hin : u ∈ K := k.sub u (by simp)
  have hM : ∀ x ∈ M, x ∈ K := fun x hx => k.sub x (by simp [hx])
  refine ⟨fun x hx => hM x (h.sub x hx), fun x hx => ?_, fun x hx => ?_, fun x hx => ?_⟩
  · rcases List.mem_append.1 hx with hx | hx
    · exact hM x (h.here x hx)
    · simp at hx; rw [hx]; exact hin
  · rcases k.shut x hx with hx' | hx'
    · rcases List.mem_append.1 hx' with h1 | h1
      · rcases h.shut x h1 with h2 | h2
        · exact Or.inl h2
        · exact Or.inr fun y hy => hM y (h2 y hy)
      · simp at h1; subst h1
        exact Or.inr fun y hy => k.here y hy
    · exact Or.inr hx'
  · rcases k.reach x hx with hx' | hx'
    · rcases List.mem_append.1 hx' with h1 | h1
      · exact h.reach x h1
      · simp at h1; subst h1
        exact Or.inr (.base hu)
    · exact Or.inr ((Og.Reach.base hu).trans hx')
set_option maxRecDepth 100000 in
set_option maxHeartbeats 1600000 in
theorem gather_any (L : List Mo) (hn : (nmL L).Nodup) (hu : usesIn L = true) (h4 : L.length ≤ 4) (a : Option Addr) (cap : Nat) (w0 : World) (hD : DAt w0 Tt a L.length (mosD L)) (ab sb : Nat) (hN : NumAt w0 ab (nmL L)) (hsb : w0.heap.size ≤ sb) (k : Nat) :
    ∀ (N : List Nm) (x : Nm) (_ : x ∈ nmL L) (w : World), L.length ≤ N.length + k → SetAt w sb N → (∀ y ∈ N, y ∈ nmL L) → Below w0.heap.size w0 w →
    Calls Try.prog 21 #[.map (some sb), .slice a L.length cap, .map (some ab), .int .i64 (((nmL L).idxOf x : Nat) : Int)] w fun e w' => ∃ M, e = .returned (.tuple #[]) ∧ SetAt w' sb M ∧ Gr (uL L) x (uL L x) N M ∧ (∀ y ∈ M, y ∈ nmL L) ∧ Below w0.heap.size w0 w' := by
  induction k using Nat.strongRecOn with
  | ind k ih =>
  intro N x hx w hk hSt hin hb
  have hi := ix_lt hx
  have hux := uL_at hn hx
  obtain ⟨b', off, v, a1, c1, a2, c2, a3, c3, a4, c4, rfl, hlb, hM, k0, k1, k2, k3, k4⟩ := hD.mo _ hi
  have HUs := hid (uses_in hu _ hi)
  have HU := hid hM.uses
  have hub := hM.uses.bound
  have hk1 := (hb.cell (p := ⟨b', off + (nmL L).idxOf x * 5 + 1, none⟩) hlb).trans k1
  have hlb' : b' < w.heap.size := Nat.lt_of_lt_of_le hlb hb.size
  clear hM k0 k1 k2 k3 k4
  generalize hue : L[(nmL L).idxOf x].uses = us at *
  have HX := hid hux
  have HN := hid hN
  have HIH := hid ih
  have HS := hid hSt
  have HNd := hid hSt.nodup
  have HI := hid hin
  clear hux hN ih hSt hin hD
  have hiZ : ((nmL L).idxOf x : Int) < (L.length : Int) := by omega
  go_enter Try.func21, Try.ntmps21
  go_wp2_with fail
  go_loopw [18] (fun i wr => ∃ (q : Nat) (M : List Nm), q ≤ us.length ∧ i = .int .i64 q ∧ SetAt wr sb M ∧ Hid (Gr (uL L) x ((us.take q).map (fun u => u.data.toList)) N M) ∧ Hid (∀ y ∈ M, y ∈ nmL L) ∧ Below w0.heap.size w0 wr) (fun i _ => us.length - (intOf i).toNat)
  case atStart => exact ⟨0, N, Nat.zero_le _, rfl, HS.out, Gr.start _ _ _, HI.out, hb⟩
  case round =>
    clear HS HI hb hlb' hk1
    obtain ⟨q, M, hq, rfl, hSt, HG, HM, hb⟩ := hrel
    have HS := hid hSt
    by_cases hlt : q < us.length
    · obtain ⟨ub, uo, rfl, hul, huc, hus⟩ := (HU.out.moves (Moves.of_below hb _)).str q hlt
      have hlk := hSt.look_ok hus
      have hux := HUs.out us[q] (List.getElem_mem hlt)
      have HTk : Hid ((us.take (q + 1)).map (fun u => u.data.toList) = (us.take q).map (fun u => u.data.toList) ++ [us[q].data.toList]) := by
        show _ = _
        rw [List.take_succ_eq_append_getElem hlt, List.map_append]; rfl
      cases hc : M.contains us[q].data.toList with
      | true =>
        rw [hc] at hlk
        have HG2 : Hid (Gr (uL L) x ((us.take (q + 1)).map (fun u => u.data.toList)) N M) := by
          show Gr _ _ _ _ _
          rw [HTk.out]; exact HG.out.old (by simpa using hc)
        have hb2 := hb.alloc hb.size (.cells #[] 57)
        clear hSt
        go_wp2_with fail
        go_roundw
        case rel => exact ⟨q + 1, M, by omega, by go_num, HS.out.later (al1 _ _), HG2.out, HM.out, hb2⟩
        case measure => simp [intOf]; omega
      | false =>
        rw [hc] at hlk
        have hnu : us[q].data.toList ∉ M := by simpa using hc
        have hM1 : ∀ y ∈ M ++ [us[q].data.toList], y ∈ nmL L := fun y hy => (List.mem_append.1 hy).elim (fun h => HM.out y h) (fun h => by simp at h; rw [h]; exact hux)
        have hnd : (M ++ [us[q].data.toList]).Nodup := List.nodup_append.2 ⟨hSt.nodup, by simp, by intro a ha b hb e; simp at hb; subst hb; subst e; exact hnu ha⟩
        have hlen := len_le _ _ hnd hM1
        rw [nmL_len, List.length_append] at hlen
        have hNM := len_le N M HNd.out HG.out.sub
        obtain ⟨w2, hrun, hS2, hg2⟩ := (hSt.later (al1 _ (.cells #[] 57))).put (by unfold maxLen; simp at hlen; omega) hus hnu
        have hb2 : Below w0.heap.size w0 w2 := (hb.alloc hb.size _).grown hg2 (by have := hb.size; simp; omega) (fun j hj => by cases hj; exact hsb)
        have hlk2 := (HN.out.later hb2).look hn hus hux
        have HUx : Hid (us[q].data.toList ∈ uL L x) := by
          show _ ∈ _
          rw [HX.out]; exact List.mem_map.2 ⟨us[q], List.getElem_mem hlt, rfl⟩
        have HC := hid (HIH.out (L.length - (M.length + 1)) (by simp at hlen; omega) (M ++ [us[q].data.toList]) us[q].data.toList hux w2 (by simp at hlen ⊢; omega) hS2 hM1 hb2)
        clear hSt hS2 hM1 hnd
        go_wp2_with fail
        refine HC.out.mono ?_
        rintro e w3 ⟨K, rfl, hS3, hG3, hin3, hb3⟩
        have HG2 : Hid (Gr (uL L) x ((us.take (q + 1)).map (fun u => u.data.toList)) N K) := by
          show Gr _ _ _ _ _
          rw [HTk.out]; exact HG.out.new HUx.out hG3
        have HS3 := hid hS3
        have HI3 := hid hin3
        clear hS3 hG3 hin3
        go_wp2_with fail
        go_roundw
        case rel => exact ⟨q + 1, K, by omega, by go_num, HS3.out, HG2.out, HI3.out, hb3⟩
        case measure => simp [intOf]; omega
    · have HR : Hid (Gr (uL L) x (uL L x) N M) := by
        have := HG.out
        rw [List.take_of_length_le (by omega), ← HX.out] at this
        exact this
      clear hSt
      go_wp2_with fail
      go_end0
      exact ⟨M, rfl, HS.out, HR.out, HM.out, hb⟩
/- What Needs tells of a right list and a name of it: these, sorted. -/
structure NeedsIs (L : List Mo) (x : Nm) (l : List Nm) : Prop where
  need : Og.NeedIs (uL L) x l
  sort : ∃ N : List Nm, l = N.mergeSort Og.le
  mem : ∀ y ∈ l, y ∈ nmL L
theorem needs_of {L : List Mo} {x : Nm} {M : List Nm} (hn : M.Nodup) (h : Gr (uL L) x (uL L x) [] M) (hin : ∀ y ∈ M, y ∈ nmL L) : NeedsIs L x (M.mergeSort Og.le) := by
  have hp := List.mergeSort_perm M Og.le
  refine ⟨⟨hp.nodup_iff.2 hn, fun u hu => hp.mem_iff.2 (h.here u hu), fun y hy u hu => ?_, fun y hy => ?_⟩, ⟨M, rfl⟩, fun y hy => hin y (hp.mem_iff.1 hy)⟩
  · rcases h.shut y (hp.mem_iff.1 hy) with h1 | h1
    · cases h1
    · exact hp.mem_iff.2 (h1 u hu)
  · rcases h.reach y (hp.mem_iff.1 hy) with h1 | h1
    · cases h1
    · exact h1
def needsEnd (L : List Mo) (x : ByteArray) (e : Ending) (w : World) : Prop :=
  (ordE L ≠ 0 ∧ e = .returned (.tuple #[.slice none 0 0, .int .i64 (ordE L)])) ∨
  (ordE L = 0 ∧ x.data.toList ∉ nmL L ∧ e = .returned (.tuple #[.slice none 0 0, .int .i64 5])) ∨
  ∃ l v, ordE L = 0 ∧ x.data.toList ∈ nmL L ∧ NeedsIs L x.data.toList l ∧ e = .returned (.tuple #[v, .int .i64 0]) ∧ StrsIn w v l
set_option maxRecDepth 100000 in
set_option maxHeartbeats 1600000 in
theorem Needs_any (L : List Mo) (a : Option Addr) (cap : Nat) (x : ByteArray) (w : World) (hD : DAt w Tt a L.length (mosD L)) (hx : x.size ≤ maxLen) :
    Calls Try.prog 7 #[.slice a L.length cap, .string x] w fun e w' => needsEnd L x e w' ∧ Below w.heap.size w w' := by
  have hbd := hD.bound
  have HD := hid hD
  clear hD
  have hmm := @run_makeMap Try.prog
  go_enter Try.func7, Try.ntmps7
  go_wp2_with fail
  refine (check_any L a cap _ HD.out).mono ?_
  rintro e w1 ⟨rfl, hb1⟩
  by_cases he : ordE L = 0
  · obtain ⟨h4, hal, hn, hu⟩ := ordE_zero he
    have HE := hid he
    rw [he]
    clear he hal
    go_wp2_with fail
    refine (numbers_any L a cap _ (HD.out.later hb1)).mono ?_
    rintro e w2 ⟨b, rfl, hN, hb2⟩
    have HN := hid hN
    have hbb2 := thenB hb1 hb2
    clear hb2 hb1
    obtain ⟨c, hlk, hc⟩ := hN.look_ok hx
    clear hN
    by_cases hin : x.data.toList ∈ nmL L
    · have hct : (nmL L).contains x.data.toList = true := by simpa using hin
      rw [hct, hc hn hin] at hlk
      have HS := hid (SetAt.made w2)
      have HC := hid (gather_any L hn hu h4 a cap w2 (HD.out.later hbb2) b w2.heap.size HN.out (Nat.le_refl _) L.length [] x.data.toList hin (w2.alloc (.map #[] 0)) (by simp) HS.out (by simp) (al1 _ _))
      clear hc hct
      go_wp2_with fail
      refine HC.out.mono ?_
      rintro e w3 ⟨M, rfl, hS3, hG3, hin3, hb3⟩
      have HS3 := hid hS3
      have hl3 : M.length ≤ 1000 := by have := len_le M (nmL L) hS3.nodup hin3; rw [nmL_len] at this; omega
      have HR := hid (needs_of hS3.nodup hG3 hin3)
      have hbb3 := thenB hbb2 hb3
      clear hS3 hG3 hin3 hb3
      go_wp2_with fail
      refine (keysSet_any (some w2.heap.size) _).mono ?_
      rintro e w4 ⟨rfl, rfl⟩
      go_wp2_with fail
      refine (sortedSet_any w2.heap.size w3 M HS3.out hl3).mono ?_
      rintro e w5 ⟨v, rfl, hV, hb5⟩
      have HV := hid hV
      have hbb5 := thenB hbb3 hb5
      clear hV hb5
      go_wp2_with fail
      go_ret2
      exact ⟨Or.inr (Or.inr ⟨_, v, HE.out, hin, HR.out, rfl, HV.out⟩), hbb5⟩
    · have hct : (nmL L).contains x.data.toList = false := by simpa using hin
      rw [hct] at hlk
      go_wp2_with fail
      go_ret2
      exact ⟨Or.inr (Or.inl ⟨HE.out, hin, rfl⟩), hbb2⟩
  · have hne : (ordE L == 0) = false := by simpa using he
    go_wp2_with fail
    go_ret2
    exact ⟨Or.inl ⟨he, rfl⟩, hb1⟩
end Go.Proofs.Ytplkbngnnaogkaa
