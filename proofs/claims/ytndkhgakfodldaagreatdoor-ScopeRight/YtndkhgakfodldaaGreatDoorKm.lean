/-
  What is resolved is a right unit: without the program.
-/
import Derived.Test.YtndkhgakfodldaaGreatDoorKk
import Derived.Test.YtndkhgakfodldaaGreatDoorUs
namespace Go.Proofs.YtndkhgakfodldaaGreatDoor
open Go.RowKit
set_option linter.unusedSimpArgs false
set_option linter.unusedVariables false

/- What names may stand for, if what they are put to is to be right. -/
structure GoodK (c : Ck) (K : Kn) : Prop where
  kind : ∀ mod name x, K mod name = some x → 1 ≤ x.kind ∧ x.kind ≤ 4
  own : ∀ mod name x, K mod name = some x → x.m ≠ -1
  num : ∀ mod name x, K mod name = some x → x.kind = 1 → 0 ≤ x.n ∧ x.n ≤ 1099511627775
  var : ∀ mod name x, K mod name = some x → x.kind = 2 → numB c x.m x.at_ 1 = true
  arr : ∀ mod name x, K mod name = some x → x.kind = 3 → arrB c x.n x.m x.at_ = true
  prc : ∀ mod name x, K mod name = some x → x.kind = 4 → prtB c x.m x.at_ x.n = true
def GoodL (c : Ck) (L : Lc) : Prop := ∀ s a, L s = some a → locB c a = true
theorem look_fine {K : Kn} {L : Lc} {mod name : ByteArray} {ks : List Int} (h : (findM K L mod name ks).2 = 0) :
    (∃ a, L name = some a ∧ (findM K L mod name ks).1 = ⟨0, 0, 0, a⟩ ∧ ks.contains 0 = true) ∨ (∃ x, K mod name = some x ∧ (findM K L mod name ks).1 = x ∧ ks.contains x.kind = true) := by
  unfold findM at h ⊢
  cases hl : lookM K L mod name with
  | none => rw [hl] at h; simp at h
  | some x =>
    rw [hl] at h
    simp only at h ⊢
    by_cases hk : ks.contains x.kind = true
    · rw [if_pos hk]
      unfold lookM at hl
      by_cases hm : mod.size = 0
      · rw [if_pos hm] at hl
        cases hL : L name with
        | none => rw [hL] at hl; exact Or.inr ⟨x, hl, rfl, hk⟩
        | some a =>
          rw [hL] at hl
          obtain rfl := Option.some.inj hl
          exact Or.inl ⟨a, rfl, rfl, hk⟩
      · rw [if_neg hm] at hl
        exact Or.inr ⟨x, hl, rfl, hk⟩
    · rw [if_neg hk] at h; simp at h
theorem rout_fine {K : Kn} {L : Lc} {mod name : ByteArray} {n : Int} (h : (routM K L mod name n).2 = 0) :
    ∃ x, K mod name = some x ∧ (routM K L mod name n).1 = x ∧ x.kind = 4 ∧ x.n = n := by
  unfold routM at h ⊢
  by_cases hc : (findM K L mod name [4]).2 = 0 ∧ (findM K L mod name [4]).1.n ≠ n
  · rw [if_pos hc] at h; simp at h
  · rw [if_neg hc] at h ⊢
    rcases look_fine h with ⟨a, _, _, hk⟩ | ⟨x, h1, h2, hk⟩
    · simp at hk
    · refine ⟨x, h1, h2, by simpa using hk, ?_⟩
      rw [h2] at hc
      exact Classical.byContradiction fun hn => hc ⟨h, hn⟩
theorem ok_bind {α β : Type} {x : Except Int α} {f : α → Except Int β} {b : β} (h : bindE x f = .ok b) : ∃ a, x = .ok a ∧ f a = .ok b := by
  cases x with
  | error e => cases h
  | ok a => exact ⟨a, rfl, h⟩
theorem ok_al {a b : Al} (h : alE a = .ok b) : a.err = 0 ∧ b = a := by
  unfold alE at h
  by_cases he : a.err = 0
  · rw [if_pos he] at h; exact ⟨he, (Except.ok.inj h).symm⟩
  · rw [if_neg he] at h; cases h
theorem count_of {s : Sh} {k : Nat} (h : countOk s k = true) : s.least ≤ (k : Int) ∧ (k : Int) ≤ s.most := by
  unfold countOk at h
  simpa only [Bool.and_eq_true, decide_eq_true_eq] using h
/- An expression without its arguments. -/
theorem node_hold {c : Ck} {K : Kn} {L : Lc} (hK : GoodK c K) (hL : GoodL c L) {x : Ex} {ys : List Nd} (he : (ndM K L x).err = 0) (hl : ys.length = x.args.length)
    (h1 : exB x.op = true) (h3 : nOk (exS x.op) x.n = true) (h4 : countOk (exS x.op) x.args.length = true) :
    nodeA c (.mk (ndM K L x).op (ndM K L x).n (ndM K L x).m (ndM K L x).at_ ys) = true := by
  rcases ex_ops h1 with e | e | e | e | e | e | e
  · rw [e] at h3 h4
    have hnd : ndM K L x = ⟨x.op, x.n, 0, 0, 0⟩ := by unfold ndM; rw [if_neg (by omega), if_neg (by omega), if_neg (by omega)]
    rw [hnd, e]
    have h3' : 0 ≤ x.n ∧ x.n ≤ 1099511627775 := by simpa [exS, exSh, nOk, numOkB] using h3
    have hc := count_of h4
    have hl0 : ys.length = 0 := by have : (exS 1).most = 0 := rfl; omega
    simp [nodeA, Nd.op, Nd.n, Nd.m, Nd.at_, Nd.args, hl0, h3'.1, h3'.2]
  · rw [e] at h3 h4
    have hnd : ndM K L x = ⟨x.op, x.n, 0, 0, 0⟩ := by unfold ndM; rw [if_neg (by omega), if_neg (by omega), if_neg (by omega)]
    rw [hnd, e]
    have h3' : x.n = 0 := by simpa [exS, exSh, sh0, nOk, numOkB] using h3
    have hc := count_of h4
    have hl0 : ys.length = 0 := by have : (exS 2).most = 0 := rfl; omega
    simp [nodeA, Nd.op, Nd.n, Nd.m, Nd.at_, Nd.args, argsOf, hl0, h3']
  · rw [e] at h4
    have hnd : ndM K L x = valM K L x.mod x.name := by unfold ndM; rw [if_pos e]
    rw [hnd] at he ⊢
    have hl0 : ys.length = 0 := by have hc := count_of h4; have : (exS 3).most = 0 := rfl; omega
    unfold valM at he ⊢
    by_cases hf : (findM K L x.mod x.name [0, 1, 2]).2 = 0
    · rw [if_neg (by simp [hf])]
      rcases look_fine hf with ⟨a, ha, hx, _⟩ | ⟨y, hy, hx, hk⟩
      · rw [hx]
        have hla := hL _ _ ha
        simp [nodeA, Nd.op, Nd.n, Nd.m, Nd.at_, Nd.args, hl0, hla]
      · rw [hx]
        have hkk := hK.kind _ _ _ hy
        have hk' : y.kind = 1 ∨ y.kind = 2 := by simp at hk; omega
        rcases hk' with k1 | k2
        · rw [if_pos k1]
          have := hK.num _ _ _ hy k1
          simp [nodeA, Nd.op, Nd.n, Nd.m, Nd.at_, Nd.args, hl0, this.1, this.2]
        · rw [if_neg (by omega), if_pos k2]
          have := hK.var _ _ _ hy k2
          simp [nodeA, Nd.op, Nd.n, Nd.m, Nd.at_, Nd.args, hl0, this]
    · rw [if_pos hf] at he
      exact absurd he hf
  · rw [e] at h4
    have hnd : ndM K L x = ⟨4, (findM K L x.mod x.name [3]).1.n, (findM K L x.mod x.name [3]).1.m, (findM K L x.mod x.name [3]).1.at_, (findM K L x.mod x.name [3]).2⟩ := by unfold ndM; rw [if_neg (by omega), if_pos e]
    rw [hnd] at he ⊢
    have hl1 : ys.length = 1 := by have hc := count_of h4; have : (exS 4).most = 1 := rfl; have : (exS 4).least = 1 := rfl; omega
    rcases look_fine he with ⟨a, _, _, hk⟩ | ⟨y, hy, hx, hk⟩
    · simp at hk
    · rw [hx]
      have := hK.arr _ _ _ hy (by simpa using hk)
      simp [nodeA, Nd.op, Nd.n, Nd.m, Nd.at_, Nd.args, hl1, this]
  · have hnd : ndM K L x = ⟨5, 0, (routM K L x.mod x.name x.args.length).1.m, (routM K L x.mod x.name x.args.length).1.at_, (routM K L x.mod x.name x.args.length).2⟩ := by unfold ndM; rw [if_neg (by omega), if_neg (by omega), if_pos e]
    rw [hnd] at he ⊢
    obtain ⟨y, hy, hx, hk, hn⟩ := rout_fine he
    rw [hx]
    have := hK.prc _ _ _ hy hk
    rw [hn] at this
    simp [nodeA, Nd.op, Nd.n, Nd.m, Nd.at_, Nd.args, hl, this]
  · rw [e] at h3 h4
    have hnd : ndM K L x = ⟨x.op, x.n, 0, 0, 0⟩ := by unfold ndM; rw [if_neg (by omega), if_neg (by omega), if_neg (by omega)]
    rw [hnd, e]
    have h3' : x.n = 0 := by simpa [exS, exSh, sh0, nOk, numOkB] using h3
    have hl1 : ys.length = 1 := by have hc := count_of h4; have : (exS 6).most = 1 := rfl; have : (exS 6).least = 1 := rfl; omega
    simp [nodeA, Nd.op, Nd.n, Nd.m, Nd.at_, Nd.args, argsOf, hl1, h3']
  · have hs : exS x.op = ⟨false, false, 2, 2, false, false⟩ := by
      unfold exS exSh; rw [if_neg (by omega), if_neg (by omega), if_neg (by omega), if_neg (by omega), if_neg (by omega), if_neg (by omega), if_pos e]; rfl
    rw [hs] at h3 h4
    have hnd : ndM K L x = ⟨x.op, x.n, 0, 0, 0⟩ := by unfold ndM; rw [if_neg (by omega), if_neg (by omega), if_neg (by omega)]
    rw [hnd]
    have ha : argsOf x.op = 2 := by unfold argsOf; rw [if_neg (by omega), if_neg (by omega), if_pos e]
    have hn : nodeA c (.mk x.op x.n 0 0 ys) = (decide ((ys.length : Int) = argsOf x.op) && (decide (x.n = 0) && (decide ((0 : Int) = 0) && decide ((0 : Int) = 0)))) := by
      unfold nodeA
      exact (if_neg (by show ¬ x.op = 3; omega)).trans ((if_neg (by show ¬ x.op = 4; omega)).trans ((if_neg (by show ¬ x.op = 5; omega)).trans ((if_neg (by show ¬ x.op = 16; omega)).trans (if_neg (by show ¬ x.op = 1; omega)))))
    show nodeA c (.mk x.op x.n 0 0 ys) = true
    rw [hn, ha]
    have h3' : x.n = 0 := by simpa [nOk] using h3
    have hc := count_of h4
    simp only at hc
    rw [decide_eq_true (by omega), decide_eq_true h3']; rfl
theorem rsEs_len {K : Kn} {L : Lc} : ∀ (l : List Ex) (ys : List Nd), rsEs K L l = .ok ys → ys.length = l.length
  | [], ys, h => by rw [rsEs] at h; rw [← Except.ok.inj h]; rfl
  | x :: r, ys, h => by
    rw [rsEs] at h
    obtain ⟨y, _, h⟩ := ok_bind h
    obtain ⟨zs, hz, h⟩ := ok_bind h
    rw [← Except.ok.inj h, List.length_cons, List.length_cons, rsEs_len r zs hz]
theorem rsEs_mem {K : Kn} {L : Lc} : ∀ (l : List Ex) (ys : List Nd), rsEs K L l = .ok ys → ∀ y ∈ ys, ∃ x ∈ l, rsE K L x = .ok y
  | [], ys, h, y, hy => by rw [rsEs] at h; rw [← Except.ok.inj h] at hy; cases hy
  | x :: r, ys, h, y, hy => by
    rw [rsEs] at h
    obtain ⟨z, hz0, h⟩ := ok_bind h
    obtain ⟨zs, hz, h⟩ := ok_bind h
    rw [← Except.ok.inj h] at hy
    rcases List.mem_cons.1 hy with rfl | hy
    · exact ⟨x, by simp, hz0⟩
    · obtain ⟨x', hx', e⟩ := rsEs_mem r zs hz y hy
      exact ⟨x', by simp [hx'], e⟩
theorem nds_hold {c : Ck} {K : Kn} {L : Lc} (hK : GoodK c K) (hL : GoodL c L) : ∀ (k : Nat) (l : List Ex) (ys : List Nd), rsEs K L l = .ok ys → exKinds k l = true → exMany k l = false → exForm k l = true → ndsB c k ys = true
  | 0, l, ys, h, _, h2, _ => by
    have := rsEs_len l ys h
    simp [exMany] at h2
    rw [h2] at this
    simp only [ndsB]
    exact decide_eq_true this
  | k + 1, l, ys, h, h1, h2, h3 => by
    simp only [exKinds, List.all_eq_true] at h1
    simp only [exMany, Bool.or_eq_false_iff] at h2
    simp only [exForm, List.all_eq_true] at h3
    rw [ndsB, List.all_eq_true]
    intro y hy
    obtain ⟨x, hx, e⟩ := rsEs_mem l ys h y hy
    have a1 := h1 x hx
    have a3 := h3 x hx
    have a2 : exMany k x.args = false := by
      have := h2.2
      rw [List.any_eq_false] at this
      simpa using this x hx
    simp only [Bool.and_eq_true] at a1 a3
    rw [rsE_eq] at e
    obtain ⟨al, e1, e⟩ := ok_bind e
    obtain ⟨zs, e2, e⟩ := ok_bind e
    obtain ⟨he, rfl⟩ := ok_al e1
    obtain rfl := Except.ok.inj e
    rw [Bool.and_eq_true]
    exact ⟨node_hold hK hL he (rsEs_len _ _ e2) a1.1 a3.2.1 a3.2.2.1, nds_hold hK hL k x.args zs e2 a1.2 a2 a3.2.2.2⟩
theorem st_range {op : Int} (h : stB op = true) : 1 ≤ op ∧ op ≤ 7 := by
  unfold stB stSh at h
  split at h; · omega
  split at h; · omega
  split at h; · omega
  split at h; · omega
  split at h; · omega
  split at h; · omega
  split at h; · omega
  simp at h
/- A statement without what lies in it. -/
theorem act_hold {c : Ck} {K : Kn} {L : Lc} (hK : GoodK c K) (hL : GoodL c L) {s : St} {ys : List Nd} {b o : List Ac} (he : (acM K L s).err = 0) (hl : ys.length = s.args.length)
    (h1 : stB s.op = true) (h4 : countOk (stS s.op) s.args.length = true) :
    actA c (.mk (acM K L s).op (acM K L s).n (acM K L s).m (acM K L s).at_ ys b o) = true ∧ (acM K L s).op = s.op := by
  have hop := st_range h1
  rcases (by omega : s.op = 1 ∨ s.op = 2 ∨ s.op = 3 ∨ (4 ≤ s.op ∧ s.op ≤ 7)) with e | e | e | e
  · rw [e] at h4
    have hnd : acM K L s = ⟨1, 0, if (findM K L s.mod s.name [0, 2]).1.kind = 0 then -1 else (findM K L s.mod s.name [0, 2]).1.m, (findM K L s.mod s.name [0, 2]).1.at_, (findM K L s.mod s.name [0, 2]).2⟩ := by unfold acM; rw [if_pos e]
    rw [hnd] at he ⊢
    have hl1 : ys.length = 1 := by have hc := count_of h4; have : (stS 1).most = 1 := rfl; have : (stS 1).least = 1 := rfl; omega
    refine ⟨?_, e.symm⟩
    rcases look_fine he with ⟨a, ha, hx, _⟩ | ⟨y, hy, hx, hk⟩
    · rw [hx]
      have hla := hL _ _ ha
      simp [actA, Ac.op, Ac.n, Ac.m, Ac.at_, Ac.args, hl1, hla]
    · rw [hx]
      have hkk := hK.kind _ _ _ hy
      have hm := hK.own _ _ _ hy
      have hk' : y.kind = 2 := by simp at hk; omega
      have := hK.var _ _ _ hy hk'
      simp [actA, Ac.op, Ac.n, Ac.m, Ac.at_, Ac.args, hl1, this, hk', hm]
  · rw [e] at h4
    have hnd : acM K L s = ⟨2, (findM K L s.mod s.name [3]).1.n, (findM K L s.mod s.name [3]).1.m, (findM K L s.mod s.name [3]).1.at_, (findM K L s.mod s.name [3]).2⟩ := by unfold acM; rw [if_neg (by omega), if_pos e]
    rw [hnd] at he ⊢
    have hl1 : ys.length = 2 := by have hc := count_of h4; have : (stS 2).most = 2 := rfl; have : (stS 2).least = 2 := rfl; omega
    refine ⟨?_, e.symm⟩
    rcases look_fine he with ⟨a, _, _, hk⟩ | ⟨y, hy, hx, hk⟩
    · simp at hk
    · rw [hx]
      have := hK.arr _ _ _ hy (by simpa using hk)
      simp [actA, Ac.op, Ac.n, Ac.m, Ac.at_, Ac.args, hl1, this]
  · have hnd : acM K L s = ⟨3, 0, (routM K L s.mod s.name s.args.length).1.m, (routM K L s.mod s.name s.args.length).1.at_, (routM K L s.mod s.name s.args.length).2⟩ := by unfold acM; rw [if_neg (by omega), if_neg (by omega), if_pos e]
    rw [hnd] at he ⊢
    obtain ⟨y, hy, hx, hk, hn⟩ := rout_fine he
    refine ⟨?_, e.symm⟩
    rw [hx]
    have := hK.prc _ _ _ hy hk
    rw [hn] at this
    simp [actA, Ac.op, Ac.n, Ac.m, Ac.at_, Ac.args, hl, this]
  · have hnd : acM K L s = ⟨s.op, 0, 0, 0, 0⟩ := by unfold acM; rw [if_neg (by omega), if_neg (by omega), if_neg (by omega)]
    rw [hnd]
    have hl1 : ys.length = 1 := by
      rcases (by omega : s.op = 4 ∨ s.op = 5 ∨ s.op = 6 ∨ s.op = 7) with e | e | e | e <;> (rw [e] at h4; have hc := count_of h4; have h5 : (stS 4).most = 1 ∧ (stS 4).least = 1 ∧ (stS 5).most = 1 ∧ (stS 5).least = 1 ∧ (stS 6).most = 1 ∧ (stS 6).least = 1 ∧ (stS 7).most = 1 ∧ (stS 7).least = 1 := ⟨rfl, rfl, rfl, rfl, rfl, rfl, rfl, rfl⟩; omega)
    refine ⟨?_, rfl⟩
    have hn : actA c (.mk s.op 0 0 0 ys b o) = (decide (ys.length = 1) && (decide ((0 : Int) = 0) && (decide ((0 : Int) = 0) && decide ((0 : Int) = 0)))) := by
      unfold actA
      exact (if_neg (by show ¬ s.op = 1; omega)).trans ((if_neg (by show ¬ s.op = 2; omega)).trans ((if_neg (by show ¬ s.op = 3; omega)).trans (if_pos e)))
    show actA c (.mk s.op 0 0 0 ys b o) = true
    rw [hn]
    simp [hl1]
theorem rsSs_len {K : Kn} {L : Lc} : ∀ (l : List St) (ys : List Ac), rsSs K L l = .ok ys → ys.length = l.length
  | [], ys, h => by rw [rsSs] at h; rw [← Except.ok.inj h]; rfl
  | x :: r, ys, h => by
    rw [rsSs] at h
    obtain ⟨y, _, h⟩ := ok_bind h
    obtain ⟨zs, hz, h⟩ := ok_bind h
    rw [← Except.ok.inj h, List.length_cons, List.length_cons, rsSs_len r zs hz]
theorem rsSs_mem {K : Kn} {L : Lc} : ∀ (l : List St) (ys : List Ac), rsSs K L l = .ok ys → ∀ y ∈ ys, ∃ x ∈ l, rsS K L x = .ok y
  | [], ys, h, y, hy => by rw [rsSs] at h; rw [← Except.ok.inj h] at hy; cases hy
  | x :: r, ys, h, y, hy => by
    rw [rsSs] at h
    obtain ⟨z, hz0, h⟩ := ok_bind h
    obtain ⟨zs, hz, h⟩ := ok_bind h
    rw [← Except.ok.inj h] at hy
    rcases List.mem_cons.1 hy with rfl | hy
    · exact ⟨x, by simp, hz0⟩
    · obtain ⟨x', hx', e⟩ := rsSs_mem r zs hz y hy
      exact ⟨x', by simp [hx'], e⟩
theorem acs_nil (c : Ck) (k : Nat) (h : k ≠ 0) : acsB c k [] = true := by
  obtain ⟨j, rfl⟩ : ∃ j, k = j + 1 := ⟨k - 1, by omega⟩
  rw [acsB_succ]; rfl
theorem acs_hold {c : Ck} {K : Kn} {L : Lc} (hK : GoodK c K) (hL : GoodL c L) : ∀ (k : Nat) (l : List St) (ys : List Ac), rsSs K L l = .ok ys → stKinds k l = true → stMany k l = false → stForm k l = true → acsB c k ys = true
  | 0, l, ys, _, _, h2, _ => by simp [stMany] at h2
  | k + 1, l, ys, h, h1, h2, h3 => by
    have hlen := rsSs_len l ys h
    simp only [stKinds, List.all_eq_true] at h1
    simp only [stMany, Bool.or_eq_false_iff] at h2
    simp only [stForm, List.all_eq_true] at h3
    have h10 := of_decide_eq_false h2.1
    rw [acsB_succ, decide_eq_true (by omega), Bool.true_and, List.all_eq_true]
    intro y hy
    obtain ⟨x, hx, e⟩ := rsSs_mem l ys h y hy
    have a1 := h1 x hx
    have a3 := h3 x hx
    have a2 := h2.2
    rw [List.any_eq_false] at a2
    have a2 := a2 x hx
    simp only [Bool.and_eq_true] at a1 a3
    simp only [Bool.not_eq_true, Bool.or_eq_false_iff, Bool.and_eq_false_iff] at a2
    rw [rsS_eq] at e
    obtain ⟨al, e1, e⟩ := ok_bind e
    obtain ⟨zs, e2, e⟩ := ok_bind e
    obtain ⟨bs, e3, e⟩ := ok_bind e
    obtain ⟨os, e4, e⟩ := ok_bind e
    obtain ⟨he, rfl⟩ := ok_al e1
    obtain rfl := Except.ok.inj e
    obtain ⟨hA, hop⟩ := act_hold (b := bs) (o := os) hK hL he (rsEs_len _ _ e2) a1.1 a3.2.1
    have hN := nds_hold hK hL 6 x.args zs e2 a1.2.1 a2.1 a3.2.2.1
    have hlb := rsSs_len _ _ e3
    have hlo := rsSs_len _ _ e4
    unfold stmB
    rw [hA, show ndsB c 6 (Ac.mk (acM K L x).op (acM K L x).n (acM K L x).m (acM K L x).at_ zs bs os).args = true from hN, Bool.true_and, Bool.true_and]
    unfold innB
    show (if (acM K L x).op = 4 then acsB c k bs && acsB c k os else if (acM K L x).op = 5 then acsB c k bs && decide (os.length = 0) else decide (bs.length = 0) && decide (os.length = 0)) = true
    rw [hop]
    by_cases o4 : x.op = 4
    · rw [if_pos o4]
      have hb : stMany k x.body = false := by
        rcases a2.2.1 with h | h
        · rw [o4] at h; simp [stS, stSh] at h
        · exact h
      have hk : k ≠ 0 := fun h0 => by rw [h0] at hb; simp [stMany] at hb
      have b1 := acs_hold hK hL k x.body bs e3 a1.2.2.1 hb a3.2.2.2.2.2.1
      have b2 : acsB c k os = true := by
        rcases a2.2.2 with h | h
        · have : x.other = [] := dec_nil h
          rw [this] at hlo
          rw [List.eq_nil_of_length_eq_zero hlo]
          exact acs_nil c k hk
        · exact acs_hold hK hL k x.other os e4 a1.2.2.2 h a3.2.2.2.2.2.2
      rw [b1, b2]; rfl
    · rw [if_neg o4]
      by_cases o5 : x.op = 5
      · rw [if_pos o5]
        have hb : stMany k x.body = false := by
          rcases a2.2.1 with h | h
          · rw [o5] at h; simp [stS, stSh] at h
          · exact h
        have b1 := acs_hold hK hL k x.body bs e3 a1.2.2.1 hb a3.2.2.2.2.2.1
        have ho : x.other.length = 0 := by
          have := a3.2.2.2.2.1
          rw [o5] at this
          simpa [stS, stSh] using this
        rw [b1, decide_eq_true (by omega)]; rfl
      · rw [if_neg o5]
        have hop' := st_range a1.1
        have hs : (stS x.op).body = false ∧ (stS x.op).other = false := by
          rcases (by omega : x.op = 1 ∨ x.op = 2 ∨ x.op = 3 ∨ x.op = 6 ∨ x.op = 7) with e | e | e | e | e <;> (rw [e]; exact ⟨rfl, rfl⟩)
        have hb : x.body.length = 0 := by
          have := a3.2.2.2.1
          rw [hs.1] at this
          simpa using this
        have ho : x.other.length = 0 := by
          have := a3.2.2.2.2.1
          rw [hs.2] at this
          simpa using this
        rw [decide_eq_true (by omega), decide_eq_true (by omega)]; rfl
end Go.Proofs.YtndkhgakfodldaaGreatDoor

namespace Go.Proofs.YtndkhgakfodldaaGreatDoor
open Go.RowKit
set_option linter.unusedSimpArgs false
set_option linter.unusedVariables false

theorem declK_mem (K : Kn) (mod : ByteArray) (m : Int) : ∀ (l : List It) (a b : ByteArray) (x : Mg), declK K mod m l a b = some x → (∃ it ∈ l, x = itMg m it) ∨ K a b = some x := by
  apply Fx.list_snoc_ind
  · intro a b x h; exact Or.inr h
  · intro l i ih a b x h
    rw [declK_snoc] at h
    unfold updK at h
    by_cases e : a = mod ∧ b = i.name
    · rw [if_pos e] at h
      exact Or.inl ⟨i, by simp, (Option.some.inj h).symm⟩
    · rw [if_neg e] at h
      rcases ih a b x h with ⟨it, h1, h2⟩ | h1
      · exact Or.inl ⟨it, by simp [h1], h2⟩
      · exact Or.inr h1
theorem own_mem {m : Mo} {a b : ByteArray} {x : Mg} (h : ownK m a b = some x) : ∃ it ∈ layItems m, x = itMg 0 it := by
  rcases declK_mem _ _ _ _ _ _ _ h with h | h
  · exact h
  · cases h
/- What a declaration's item says. -/
structure ItFit (it : It) (top : Int) : Prop where
  kind : 1 ≤ it.kind ∧ it.kind ≤ 3
  num : it.kind = 1 → 0 ≤ it.n ∧ it.n ≤ 1099511627775
  var : it.kind = 2 → 0 ≤ it.at_ ∧ it.at_ + 1 ≤ top
  arr : it.kind = 3 → (1 ≤ it.n ∧ it.n ≤ 32) ∧ 0 ≤ it.at_ ∧ it.at_ + it.n ≤ top
theorem layD_its : ∀ (l : List De) (a : Int), 0 ≤ a → (∀ d ∈ l, sizeOk d = true ∧ 1 ≤ d.kind ∧ d.kind ≤ 3) → a ≤ (layD a l).2 ∧ ∀ it ∈ (layD a l).1, ItFit it (layD a l).2
  | [], a, _, _ => ⟨Int.le_refl _, fun it h => (by cases h)⟩
  | d :: r, a, ha, h => by
    obtain ⟨hs, hk1, hk3⟩ := h d (by simp)
    have hn3 : d.kind = 3 → 1 ≤ d.n ∧ d.n ≤ 32 := fun e => by
      unfold sizeOk at hs
      rw [e, if_neg (by decide), if_pos rfl] at hs
      simpa using hs
    have hn1 : d.kind = 1 → 0 ≤ d.n ∧ d.n ≤ 1099511627775 := fun e => by
      unfold sizeOk at hs
      rw [if_pos e] at hs
      simpa [numOkB] using hs
    have hnx : a ≤ layNx a d := by
      unfold layNx
      by_cases e2 : d.kind = 2
      · rw [if_pos e2]; omega
      · rw [if_neg e2]
        by_cases e3 : d.kind = 3
        · rw [if_pos e3]; have := hn3 e3; omega
        · rw [if_neg e3]; omega
    obtain ⟨ih1, ih2⟩ := layD_its r (layNx a d) (by omega) (fun x hx => h x (by simp [hx]))
    refine ⟨by show a ≤ (layD (layNx a d) r).2; omega, fun it hit => ?_⟩
    rcases List.mem_cons.1 hit with rfl | hit
    · show ItFit (layIt a d) (layD (layNx a d) r).2
      refine ⟨⟨hk1, hk3⟩, hn1, fun e => ?_, fun e => ?_⟩
      · have e' : d.kind = 2 := e
        have : layNx a d = a + 1 := by unfold layNx; rw [if_pos e']
        show 0 ≤ (if d.kind = 2 ∨ d.kind = 3 then a else 0) ∧ (if d.kind = 2 ∨ d.kind = 3 then a else 0) + 1 ≤ _
        rw [if_pos (Or.inl e')]
        omega
      · have e' : d.kind = 3 := e
        have : layNx a d = a + d.n := by unfold layNx; rw [if_neg (by omega), if_pos e']
        show (1 ≤ d.n ∧ d.n ≤ 32) ∧ 0 ≤ (if d.kind = 2 ∨ d.kind = 3 then a else 0) ∧ (if d.kind = 2 ∨ d.kind = 3 then a else 0) + d.n ≤ _
        rw [if_pos (Or.inr e')]
        have := hn3 e'
        omega
    · exact ih2 it hit
theorem prIts_mem : ∀ (l : List Pr) (i : Nat) (it : It), it ∈ prIts i l → ∃ j, ∃ hj : j < l.length, it = prIt (i + j) l[j]
  | [], _, _, h => by cases h
  | p :: r, i, it, h => by
    rcases List.mem_cons.1 h with rfl | h
    · exact ⟨0, by simp, rfl⟩
    · obtain ⟨j, hj, e⟩ := prIts_mem r (i + 1) it h
      exact ⟨j + 1, by simpa using hj, by rw [e]; simp only [List.getElem_cons_succ]; congr 1; omega⟩
theorem partsM_get {K : Kn} : ∀ (l : List Pr) (ps : List Pt), partsM K l = .ok ps → ps.length = l.length ∧ ∀ j (hj : j < l.length) (hj' : j < ps.length), partM K l[j] = .ok ps[j]
  | [], ps, h => by obtain rfl := Except.ok.inj h; exact ⟨rfl, fun j hj => by simp at hj⟩
  | p :: r, ps, h => by
    rw [partsM] at h
    obtain ⟨t, h1, h⟩ := ok_bind h
    obtain ⟨ts, h2, h⟩ := ok_bind h
    obtain rfl := Except.ok.inj h
    obtain ⟨i1, i2⟩ := partsM_get r ts h2
    refine ⟨by rw [List.length_cons, List.length_cons, i1], fun j hj hj' => ?_⟩
    cases j with
    | zero => exact h1
    | succ j => exact i2 j (by simpa using hj) (by simpa using hj')
theorem partM_parts {K : Kn} {p : Pr} {t : Pt} (h : partM K p = .ok t) : t.params = p.params.length ∧ t.locals = p.locals.length ∧ rsSs K (locL p.own) p.body = .ok t.body := by
  unfold partM at h
  split at h
  · cases h
  · obtain ⟨b, h1, h⟩ := ok_bind h
    obtain rfl := Except.ok.inj h
    exact ⟨rfl, rfl, h1⟩
theorem locL_lt (s : ByteArray) (a : Int) : ∀ ns : List ByteArray, locL ns s = some a → 0 ≤ a ∧ a < ns.length := by
  apply Fx.list_snoc_ind
  · intro h; cases h
  · intro l x ih h
    rw [locL_snoc] at h
    unfold updL at h
    rw [List.length_append, List.length_singleton]
    by_cases e : s = x
    · rw [if_pos e] at h
      have := Option.some.inj h
      omega
    · rw [if_neg e] at h
      have := ih h
      omega
/- Without uses what a module's names stand for is right. -/
theorem own_good {m : Mo} (he : m.err = 0) {ps : List Pt} (hp : partsM (ownK m) m.procs = .ok ps) (c : Ck) (hd : c.data = layData m) (hc : c.parts = ps) : GoodK c (ownK m) := by
  have ho := mo_ok he
  obtain ⟨_, hits⟩ := layD_its m.decls 0 (Int.le_refl _) (fun d hd => (ho.decls d hd).2)
  obtain ⟨hlen, hget⟩ := partsM_get _ _ hp
  have key : ∀ a b x, ownK m a b = some x → ∃ it ∈ layItems m, x = itMg 0 it ∧ (ItFit it (layData m) ∨ ∃ j, ∃ hj : j < m.procs.length, it = prIt j m.procs[j]) := by
    intro a b x h
    obtain ⟨it, h1, h2⟩ := own_mem h
    refine ⟨it, h1, h2, ?_⟩
    unfold layItems at h1
    rcases List.mem_append.1 h1 with h1 | h1
    · exact Or.inl (hits it h1)
    · obtain ⟨j, hj, e⟩ := prIts_mem _ _ _ h1
      exact Or.inr ⟨j, hj, by rw [e, Nat.zero_add]⟩
  refine ⟨fun a b x h => ?_, fun a b x h => ?_, fun a b x h hk => ?_, fun a b x h hk => ?_, fun a b x h hk => ?_, fun a b x h hk => ?_⟩ <;> obtain ⟨it, _, rfl, hi | ⟨j, hj, rfl⟩⟩ := key a b x h
  · have := hi.kind; show 1 ≤ it.kind ∧ it.kind ≤ 4; omega
  · show (1 : Int) ≤ 4 ∧ (4 : Int) ≤ 4; decide
  · show (0 : Int) ≠ -1; decide
  · show (0 : Int) ≠ -1; decide
  · exact hi.num hk
  · exact absurd hk (by show ¬ (4 : Int) = 1; decide)
  · have := hi.var hk
    show numB c 0 it.at_ 1 = true
    unfold numB lieB
    rw [if_pos rfl, hd]
    exact decide_eq_true this
  · exact absurd hk (by show ¬ (4 : Int) = 2; decide)
  · have := hi.arr hk
    show arrB c it.n 0 it.at_ = true
    unfold arrB numB lieB
    rw [if_pos rfl, hd, decide_eq_true this.1, decide_eq_true this.2]; rfl
  · exact absurd hk (by show ¬ (4 : Int) = 3; decide)
  · have := hi.kind
    exact absurd hk (by show ¬ it.kind = 4; omega)
  · show prtB c 0 (j : Int) (m.procs[j].params.length : Int) = true
    unfold prtB hasP
    rw [if_pos rfl, hc, decide_eq_true (by omega), Int.toNat_natCast, List.getElem?_eq_getElem (by omega)]
    have := (partM_parts (hget j hj (by omega))).1
    simp [this]
theorem head_chk {m : Mo} (h : chkM m = 0) : chkM ⟨m.name, m.uses, [], [], []⟩ = 0 := by
  have he := chk_err h
  have ho := mo_ok he
  have hu := (many_parts he).1
  have hdup : Fx.dupB (Fx.lists m.uses) = false := by
    unfold chkM at h
    rw [if_neg (by simp [he])] at h
    cases hd : Fx.dupB (Fx.lists m.uses) with
    | false => rfl
    | true => rw [hd] at h; simp at h
  have e : (⟨m.name, m.uses, [], [], []⟩ : Mo).err = 0 := by
    unfold Mo.err
    have k1 : (⟨m.name, m.uses, [], [], []⟩ : Mo).kinds = true := rfl
    have k2 : (⟨m.name, m.uses, [], [], []⟩ : Mo).many = false := by
      unfold Mo.many
      simp only
      rw [decide_eq_false (by omega)]; rfl
    have k3 : (⟨m.name, m.uses, [], [], []⟩ : Mo).form = true := by
      unfold Mo.form
      simp only
      rw [ho.name, List.all_eq_true.2 ho.uses]; rfl
    rw [k1, k2, k3]; rfl
  unfold chkM
  rw [if_neg (by simp [e])]
  simp only
  rw [hdup]; rfl
theorem unit_right {m : Mo} {u : Un} (hu : m.uses.length = 0) (h : resolveM m [] = .ok u) : semE [u] = 0 ∧ holdB u (numU []) (prtU []) = true ∧ u.uses = [] := by
  unfold resolveM at h
  by_cases hc : chkM m = 0
  · rw [if_neg (by simp [hc]), if_neg (by simp [hu]), if_pos (by simp)] at h
    have hu' : m.uses = [] := List.eq_nil_of_length_eq_zero hu
    have he := chk_err hc
    have ho := mo_ok he
    have hmp := many_parts he
    obtain ⟨hk, hm, hf⟩ := err_zero he
    unfold unitM at h
    obtain ⟨ps, hp, h⟩ := ok_bind h
    obtain ⟨b, hb, h⟩ := ok_bind h
    obtain rfl := Except.ok.inj h
    have hK : knownK m [] = ownK m := rfl
    rw [hK] at hp hb
    obtain ⟨hlen, hget⟩ := partsM_get _ _ hp
    have hlo := lay_ok he
    have hdat := layD_bound m.decls 0 hlo.kinds
    have hd2 : 0 ≤ layData m ∧ layData m ≤ 512 := by
      have := hlo.decls
      unfold layData
      omega
    unfold Mo.kinds at hk
    unfold Mo.form at hf
    simp only [Bool.and_eq_true, List.all_eq_true] at hk hf
    have hbk := hk.2
    have hbf := hf.2.2.2.2
    have hhead : headB ⟨m.name, m.uses, layData m, ps, b⟩ = true := by
      unfold headB
      simp only [Bool.and_eq_true, decide_eq_true_eq, List.all_eq_true]
      refine ⟨head_chk hc, fun p hp' => ?_, hd2, by rw [hlen]; exact hmp.2.2.1⟩
      obtain ⟨j, hj, rfl⟩ := List.getElem_of_mem hp'
      have hj' : j < m.procs.length := by omega
      obtain ⟨e1, e2, _⟩ := partM_parts (hget j hj' hj)
      have hpp := hmp.2.2.2.1 m.procs[j] (List.getElem_mem hj')
      unfold ptB
      rw [e1, e2, decide_eq_true (by omega), decide_eq_true (by omega)]; rfl
    have hhold : holdB ⟨m.name, m.uses, layData m, ps, b⟩ (numU []) (prtU []) = true := by
      unfold holdB
      rw [hhead, Bool.true_and, Bool.and_eq_true, List.all_eq_true]
      refine ⟨fun p hp' => ?_, ?_⟩
      · obtain ⟨j, hj, rfl⟩ := List.getElem_of_mem hp'
        have hj' : j < m.procs.length := by rw [← hlen]; exact hj
        obtain ⟨e1, e2, e3⟩ := partM_parts (hget j hj' hj)
        have hmem : m.procs[j].body ∈ m.bodies := by unfold Mo.bodies; simp; exact Or.inl ⟨m.procs[j], List.getElem_mem hj', rfl⟩
        refine acs_hold (own_good he hp _ rfl rfl) (fun s a hs => ?_) 6 _ _ e3 (hbk _ hmem) (hmp.2.2.2.1 _ (List.getElem_mem hj')).2.2 (hbf _ hmem)
        have := locL_lt s a _ hs
        unfold Pr.own at this
        rw [List.length_append] at this
        exact decide_eq_true ⟨this.1, by show a < ps[j].params + ps[j].locals; rw [e1, e2]; omega⟩
      · have hmem : m.main ∈ m.bodies := by unfold Mo.bodies; simp
        exact acs_hold (own_good he hp _ rfl rfl) (fun s a hs => by cases hs) 6 _ _ hb (hbk _ hmem) hmp.2.2.2.2 (hbf _ hmem)
    refine ⟨?_, hhold, hu'⟩
    unfold semE
    rw [if_neg (by simp)]
    have hah : aheadB [(⟨m.name, m.uses, layData m, ps, b⟩ : Un)] = true := by
      unfold aheadB
      show (true && m.uses.all _) = true
      rw [hu']; rfl
    rw [if_neg (by rw [hah]; decide), if_neg (by show ¬ Fx.dupB [m.name.data.toList] = true; unfold Fx.dupB Fx.uniqs; simp)]
    have hfb : formB [(⟨m.name, m.uses, layData m, ps, b⟩ : Un)] = true := by
      unfold formB
      show (oneU _ _ && true) = true
      unfold oneU usesU
      show (holdB _ (numU (m.uses.map _)) (prtU (m.uses.map _)) && true) = true
      rw [hu']
      rw [hu'] at hhold
      rw [Bool.and_true]
      exact hhold
    rw [if_pos]
    rw [hfb, Bool.true_and]
    have : sumD [(⟨m.name, m.uses, layData m, ps, b⟩ : Un)] = layData m := by unfold sumD; simp
    rw [this]
    exact decide_eq_true hd2.2
  · rw [if_pos hc] at h; cases h
/- The numbers of a right unit are in range, its lists not too long. -/
structure Fit (c : Ck) : Prop where
  data : c.data ≤ 1000
  uses : c.uses ≤ 1000
  locals : c.locals ≤ 1000
  len : c.parts.length ≤ 1000
  pars : ∀ p ∈ c.parts, p.params ≤ 1000
  num : ∀ m at_ n, 1 ≤ n → c.num m at_ n = true → 0 ≤ at_ ∧ at_ ≤ 1000
  prt : ∀ m at_ k, c.prt m at_ k = true → 0 ≤ at_ ∧ at_ ≤ 1000 ∧ k ≤ 1000
theorem wf_lit {n : Int} (h1 : -1000000000000000 ≤ n) (h2 : n ≤ 1000000000000000) : (Lit.int .i64 n).wf = true := by
  simp only [Lit.wf, Bool.and_eq_true, decide_eq_true_eq]
  exact ⟨by show (-9223372036854775808 : Int) ≤ n; omega, by show n ≤ (9223372036854775807 : Int); omega⟩
theorem num_fit {c : Ck} (hc : Fit c) {m at_ n : Int} (hn : 1 ≤ n) (h : numB c m at_ n = true) : (0 ≤ m ∧ m ≤ 1000) ∧ 0 ≤ at_ ∧ at_ ≤ 1000 := by
  have := hc.data
  have := hc.uses
  unfold numB at h
  by_cases hm : m = 0
  · rw [if_pos hm] at h
    unfold lieB at h
    have := of_decide_eq_true h
    omega
  · rw [if_neg hm, Bool.and_eq_true] at h
    have h1 := of_decide_eq_true h.1
    have h2 := hc.num m at_ n hn h.2
    omega
theorem prt_fit {c : Ck} (hc : Fit c) {m at_ : Int} {k : Nat} (h : prtB c m at_ k = true) : (0 ≤ m ∧ m ≤ 1000) ∧ (0 ≤ at_ ∧ at_ ≤ 1000) ∧ k ≤ 1000 := by
  have := hc.len
  have := hc.uses
  unfold prtB at h
  by_cases hm : m = 0
  · rw [if_pos hm] at h
    unfold hasP at h
    rw [Bool.and_eq_true] at h
    have h1 := of_decide_eq_true h.1
    have h2 := h.2
    cases hp : c.parts[at_.toNat]? with
    | none => rw [hp] at h2; cases h2
    | some p =>
      rw [hp] at h2
      have h3 := of_decide_eq_true h2
      obtain ⟨hlt, e⟩ := List.getElem?_eq_some_iff.1 hp
      have h4 := hc.pars p (e ▸ List.getElem_mem hlt)
      omega
  · rw [if_neg hm, Bool.and_eq_true] at h
    have h1 := of_decide_eq_true h.1
    have h2 := hc.prt m at_ k h.2
    omega
theorem node_fit {c : Ck} (hc : Fit c) {x : Nd} (h : nodeA c x = true) : (1 ≤ x.op ∧ x.op ≤ 16) ∧ (0 ≤ x.n ∧ x.n ≤ 1099511627775) ∧ (0 ≤ x.m ∧ x.m ≤ 1000) ∧ (0 ≤ x.at_ ∧ x.at_ ≤ 1000) ∧ x.args.length ≤ 1000 := by
  have := hc.locals
  unfold nodeA at h
  by_cases o3 : x.op = 3
  · rw [if_pos o3] at h
    simp only [Bool.and_eq_true, decide_eq_true_eq] at h
    have := num_fit hc (by decide) h.2.2
    omega
  rw [if_neg o3] at h
  by_cases o4 : x.op = 4
  · rw [if_pos o4] at h
    unfold arrB at h
    simp only [Bool.and_eq_true, decide_eq_true_eq] at h
    have := num_fit hc h.2.1.1 h.2.2
    omega
  rw [if_neg o4] at h
  by_cases o5 : x.op = 5
  · rw [if_pos o5] at h
    simp only [Bool.and_eq_true, decide_eq_true_eq] at h
    have := prt_fit hc h.2
    omega
  rw [if_neg o5] at h
  by_cases o16 : x.op = 16
  · rw [if_pos o16] at h
    unfold locB at h
    simp only [Bool.and_eq_true, decide_eq_true_eq] at h
    omega
  rw [if_neg o16] at h
  by_cases o1 : x.op = 1
  · rw [if_pos o1] at h
    simp only [Bool.and_eq_true, decide_eq_true_eq] at h
    omega
  rw [if_neg o1] at h
  simp only [Bool.and_eq_true, decide_eq_true_eq] at h
  unfold argsOf at h
  split at h
  · omega
  · split at h
    · omega
    · split at h
      · omega
      · omega
theorem ndsD_len : ∀ l : List Nd, (ndsD l).length = 5 * l.length
  | [] => rfl
  | x :: r => by rw [ndsD, List.length_append, x.ds_len, ndsD_len r, List.length_cons]; omega
theorem acsD_len : ∀ l : List Ac, (acsD l).length = 7 * l.length
  | [] => rfl
  | x :: r => by rw [acsD, List.length_append, x.ds_len, acsD_len r, List.length_cons]; omega
theorem nds_fines (c : Ck) : ∀ (l : List Nd), (∀ x ∈ l, D.fines x.ds) → D.fines (ndsD l)
  | [], _ => trivial
  | x :: r, h => by rw [ndsD]; exact D.fines_append (h x (by simp)) (nds_fines c r (fun y hy => h y (by simp [hy])))
theorem acs_fines (c : Ck) : ∀ (l : List Ac), (∀ x ∈ l, D.fines x.ds) → D.fines (acsD l)
  | [], _ => trivial
  | x :: r, h => by rw [acsD]; exact D.fines_append (h x (by simp)) (acs_fines c r (fun y hy => h y (by simp [hy])))
theorem nds_fit {c : Ck} (hc : Fit c) : ∀ (k : Nat) (l : List Nd), ndsB c k l = true → D.fines (ndsD l)
  | 0, l, h => by
    have : l = [] := List.eq_nil_of_length_eq_zero (of_decide_eq_true h)
    rw [this]; exact trivial
  | k + 1, l, h => by
    rw [ndsB, List.all_eq_true] at h
    refine nds_fines c l fun x hx => ?_
    have := h x hx
    rw [Bool.and_eq_true] at this
    obtain ⟨h1, h2, h3, h4, h5⟩ := node_fit hc this.1
    have hrec := nds_fit hc k x.args this.2
    have hl := ndsD_len x.args
    obtain ⟨op, n, m, at_, args⟩ := x
    simp only [Nd.op, Nd.n, Nd.m, Nd.at_, Nd.args] at *
    unfold Nd.ds
    simp only [D.fines, D.fine]
    exact ⟨wf_lit (by omega) (by omega), wf_lit (by omega) (by omega), wf_lit (by omega) (by omega), wf_lit (by omega) (by omega), ⟨by omega, by omega, hrec⟩, trivial⟩
theorem act_fit {c : Ck} (hc : Fit c) {x : Ac} (h : actA c x = true) : (1 ≤ x.op ∧ x.op ≤ 7) ∧ (0 ≤ x.n ∧ x.n ≤ 1000) ∧ (-1 ≤ x.m ∧ x.m ≤ 1000) ∧ (0 ≤ x.at_ ∧ x.at_ ≤ 1000) ∧ x.args.length ≤ 1000 := by
  have := hc.locals
  unfold actA at h
  by_cases o1 : x.op = 1
  · rw [if_pos o1] at h
    by_cases hm : x.m = -1
    · rw [if_pos hm] at h
      unfold locB at h
      simp only [Bool.and_eq_true, decide_eq_true_eq] at h
      omega
    · rw [if_neg hm] at h
      simp only [Bool.and_eq_true, decide_eq_true_eq] at h
      have := num_fit hc (by decide) h.2.2
      omega
  rw [if_neg o1] at h
  by_cases o2 : x.op = 2
  · rw [if_pos o2] at h
    unfold arrB at h
    simp only [Bool.and_eq_true, decide_eq_true_eq] at h
    have := num_fit hc h.2.1.1 h.2.2
    omega
  rw [if_neg o2] at h
  by_cases o3 : x.op = 3
  · rw [if_pos o3] at h
    simp only [Bool.and_eq_true, decide_eq_true_eq] at h
    have := prt_fit hc h.2
    omega
  rw [if_neg o3] at h
  by_cases o4 : 4 ≤ x.op ∧ x.op ≤ 7
  · rw [if_pos o4] at h
    simp only [Bool.and_eq_true, decide_eq_true_eq] at h
    omega
  · rw [if_neg o4] at h; cases h
theorem acs_fit {c : Ck} (hc : Fit c) : ∀ (k : Nat) (l : List Ac), acsB c k l = true → D.fines (acsD l) ∧ l.length ≤ 10
  | 0, l, h => by cases h
  | k + 1, l, h => by
    rw [acsB_succ, Bool.and_eq_true] at h
    have h10 := of_decide_eq_true h.1
    have h := h.2
    rw [List.all_eq_true] at h
    refine ⟨acs_fines c l fun x hx => ?_, h10⟩
    have := h x hx
    unfold stmB at this
    rw [Bool.and_eq_true, Bool.and_eq_true] at this
    obtain ⟨h1, h2, h3, h4, h5⟩ := act_fit hc this.1
    have hrec := nds_fit hc 6 x.args this.2.1
    have hin := this.2.2
    have hl := ndsD_len x.args
    have hb : D.fines (acsD x.body) ∧ x.body.length ≤ 10 ∧ D.fines (acsD x.other) ∧ x.other.length ≤ 10 := by
      have nil : ∀ l : List Ac, l.length = 0 → D.fines (acsD l) ∧ l.length ≤ 10 := fun l h0 => by
        rw [List.eq_nil_of_length_eq_zero h0]; exact ⟨trivial, by simp⟩
      unfold innB at hin
      by_cases o4 : x.op = 4
      · rw [if_pos o4, Bool.and_eq_true] at hin
        exact ⟨(acs_fit hc k _ hin.1).1, (acs_fit hc k _ hin.1).2, (acs_fit hc k _ hin.2).1, (acs_fit hc k _ hin.2).2⟩
      rw [if_neg o4] at hin
      by_cases o5 : x.op = 5
      · rw [if_pos o5, Bool.and_eq_true] at hin
        have := nil _ (of_decide_eq_true hin.2)
        exact ⟨(acs_fit hc k _ hin.1).1, (acs_fit hc k _ hin.1).2, this.1, this.2⟩
      rw [if_neg o5, Bool.and_eq_true] at hin
      have n1 := nil _ (of_decide_eq_true hin.1)
      have n2 := nil _ (of_decide_eq_true hin.2)
      exact ⟨n1.1, n1.2, n2.1, n2.2⟩
    have hlb := acsD_len x.body
    have hlo := acsD_len x.other
    obtain ⟨op, n, m, at_, args, body, other⟩ := x
    simp only [Ac.op, Ac.n, Ac.m, Ac.at_, Ac.args, Ac.body, Ac.other] at *
    unfold Ac.ds
    simp only [D.fines, D.fine]
    exact ⟨wf_lit (by omega) (by omega), wf_lit (by omega) (by omega), wf_lit (by omega) (by omega), wf_lit (by omega) (by omega), ⟨by omega, by omega, hrec⟩, ⟨by omega, by omega, hb.1⟩, ⟨by omega, by omega, hb.2.2.1⟩, trivial⟩
/- A right unit without uses that lies there. -/
theorem pts_fines : ∀ (l : List Pt), (∀ x ∈ l, D.fines x.ds) → D.fines (ptsD l)
  | [], _ => trivial
  | x :: r, h => by unfold ptsD; rw [List.flatMap_cons]; exact D.fines_append (h x (by simp)) (pts_fines r (fun y hy => h y (by simp [hy])))
theorem ptsD_len : ∀ l : List Pt, (ptsD l).length = 3 * l.length
  | [] => rfl
  | x :: r => by unfold ptsD; rw [List.flatMap_cons, List.length_append, show (r.flatMap Pt.ds).length = 3 * r.length from ptsD_len r, List.length_cons]; show 3 + _ = _; omega
theorem unit_fit {u : Un} (h : holdB u (numU []) (prtU []) = true) (hu : u.uses = []) : D.fines (ptsD u.parts) ∧ D.fines (acsD u.main) ∧ u.parts.length ≤ 6 ∧ u.main.length ≤ 10 ∧ (0 ≤ u.data ∧ u.data ≤ 512) := by
  unfold holdB at h
  rw [Bool.and_eq_true, Bool.and_eq_true, List.all_eq_true] at h
  obtain ⟨hh, hp, hm⟩ := h
  have hd := headB_data hh
  have hl : u.parts.length ≤ 6 := by
    unfold headB at hh
    simp only [Bool.and_eq_true, decide_eq_true_eq] at hh
    exact hh.2.2.2
  have hpt : ∀ p ∈ u.parts, (0 ≤ p.params ∧ p.params ≤ 3) ∧ 0 ≤ p.locals ∧ p.locals ≤ 4 := fun p hp => by
    obtain ⟨j, hj, rfl⟩ := List.getElem_of_mem hp
    exact headB_parts hh j hj
  have fit : ∀ lc : Int, lc ≤ 7 → Fit (ckOf u (numU []) (prtU []) lc) := fun lc hlc =>
    ⟨by show u.data ≤ 1000; omega, by show u.uses.length ≤ 1000; rw [hu]; simp, by show lc ≤ 1000; omega, by show u.parts.length ≤ 1000; omega, fun p hp => by have := hpt p hp; omega,
      fun m at_ n _ h => by simp [ckOf, numU] at h, fun m at_ k h => by simp [ckOf, prtU] at h⟩
  refine ⟨pts_fines _ fun p hpm => ?_, (acs_fit (fit 0 (by decide)) 6 _ hm).1, hl, (acs_fit (fit 0 (by decide)) 6 _ hm).2, hd⟩
  have h1 := hpt p hpm
  have h2 := acs_fit (fit (p.params + p.locals) (by omega)) 6 _ (hp p hpm)
  have h3 := acsD_len p.body
  unfold Pt.ds
  simp only [D.fines, D.fine]
  exact ⟨wf_lit (by omega) (by omega), wf_lit (by omega) (by omega), ⟨by omega, by omega, h2.1⟩, trivial⟩
end Go.Proofs.YtndkhgakfodldaaGreatDoor
