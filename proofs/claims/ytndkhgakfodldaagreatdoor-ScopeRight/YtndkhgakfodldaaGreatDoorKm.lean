/-
  What is resolved is a right unit: without the program.
-/
import Derived.Test.YtndkhgakfodldaaGreatDoorKk
import Derived.Test.YtndkhgakfodldaaGreatDoorUs
namespace Go.Proofs.YtndkhgakfodldaaGreatDoor
open Go.RowKit
set_option linter.unusedSimpArgs false
set_option linter.unusedVariables false

/- What names may stand for, if what they are put to is to be right. -/
structure GoodK (c : Ck) (K : Kn) : Prop where
  kind : ∀ mod name x, K mod name = some x → 1 ≤ x.kind ∧ x.kind ≤ 4
  own : ∀ mod name x, K mod name = some x → x.m ≠ -1
  num : ∀ mod name x, K mod name = some x → x.kind = 1 → 0 ≤ x.n ∧ x.n ≤ 1099511627775
  var : ∀ mod name x, K mod name = some x → x.kind = 2 → numB c x.m x.at_ 1 = true
  arr : ∀ mod name x, K mod name = some x → x.kind = 3 → arrB c x.n x.m x.at_ = true
  prc : ∀ mod name x, K mod name = some x → x.kind = 4 → prtB c x.m x.at_ x.n = true
def GoodL (c : Ck) (L : Lc) : Prop := ∀ s a, L s = some a → locB c a = true
theorem look_fine {K : Kn} {L : Lc} {mod name : ByteArray} {ks : List Int} (h : (findM K L mod name ks).2 = 0) :
    (∃ a, L name = some a ∧ (findM K L mod name ks).1 = ⟨0, 0, 0, a⟩ ∧ ks.contains 0 = true) ∨ (∃ x, K mod name = some x ∧ (findM K L mod name ks).1 = x ∧ ks.contains x.kind = true) := by
  unfold findM at h ⊢
  cases hl : lookM K L mod name with
  | none => rw [hl] at h; simp at h
  | some x =>
    rw [hl] at h
    simp only at h ⊢
    by_cases hk : ks.contains x.kind = true
    · rw [if_pos hk]
      unfold lookM at hl
      by_cases hm : mod.size = 0
      · rw [if_pos hm] at hl
        cases hL : L name with
        | none => rw [hL] at hl; exact Or.inr ⟨x, hl, rfl, hk⟩
        | some a =>
          rw [hL] at hl
          obtain rfl := Option.some.inj hl
          exact Or.inl ⟨a, rfl, rfl, hk⟩
      · rw [if_neg hm] at hl
        exact Or.inr ⟨x, hl, rfl, hk⟩
    · rw [if_neg hk] at h; simp at h
theorem rout_fine {K : Kn} {L : Lc} {mod name : ByteArray} {n : Int} (h : (routM K L mod name n).2 = 0) :
    ∃ x, K mod name = some x ∧ (routM K L mod name n).1 = x ∧ x.kind = 4 ∧ x.n = n := by
  unfold routM at h ⊢
  by_cases hc : (findM K L mod name [4]).2 = 0 ∧ (findM K L mod name [4]).1.n ≠ n
  · rw [if_pos hc] at h; simp at h
  · rw [if_neg hc] at h ⊢
    rcases look_fine h with ⟨a, _, _, hk⟩ | ⟨x, h1, h2, hk⟩
    · simp at hk
    · refine ⟨x, h1, h2, by simpa using hk, ?_⟩
      rw [h2] at hc
      exact Classical.byContradiction fun hn => hc ⟨h, hn⟩
theorem ok_bind {α β : Type} {x : Except Int α} {f : α → Except Int β} {b : β} (h : bindE x f = .ok b) : ∃ a, x = .ok a ∧ f a = .ok b := by
  cases x with
  | error e => cases h
  | ok a => exact ⟨a, rfl, h⟩
theorem ok_al {a b : Al} (h : alE a = .ok b) : a.err = 0 ∧ b = a := by
  unfold alE at h
  by_cases he : a.err = 0
  · rw [if_pos he] at h; exact ⟨he, (Except.ok.inj h).symm⟩
  · rw [if_neg he] at h; cases h
theorem count_of {s : Sh} {k : Nat} (h : countOk s k = true) : s.least ≤ (k : Int) ∧ (k : Int) ≤ s.most := by
  unfold countOk at h
  simpa only [Bool.and_eq_true, decide_eq_true_eq] using h
/- An expression without its arguments. -/
theorem node_hold {c : Ck} {K : Kn} {L : Lc} (hK : GoodK c K) (hL : GoodL c L) {x : Ex} {ys : List Nd} (he : (ndM K L x).err = 0) (hl : ys.length = x.args.length)
    (h1 : exB x.op = true) (h3 : nOk (exS x.op) x.n = true) (h4 : countOk (exS x.op) x.args.length = true) :
    nodeA c (.mk (ndM K L x).op (ndM K L x).n (ndM K L x).m (ndM K L x).at_ ys) = true := by
  rcases ex_ops h1 with e | e | e | e | e | e | e
  · rw [e] at h3 h4
    have hnd : ndM K L x = ⟨x.op, x.n, 0, 0, 0⟩ := by unfold ndM; rw [if_neg (by omega), if_neg (by omega), if_neg (by omega)]
    rw [hnd, e]
    have h3' : 0 ≤ x.n ∧ x.n ≤ 1099511627775 := by simpa [exS, exSh, nOk, numOkB] using h3
    have hc := count_of h4
    have hl0 : ys.length = 0 := by have : (exS 1).most = 0 := rfl; omega
    simp [nodeA, Nd.op, Nd.n, Nd.m, Nd.at_, Nd.args, hl0, h3'.1, h3'.2]
  · rw [e] at h3 h4
    have hnd : ndM K L x = ⟨x.op, x.n, 0, 0, 0⟩ := by unfold ndM; rw [if_neg (by omega), if_neg (by omega), if_neg (by omega)]
    rw [hnd, e]
    have h3' : x.n = 0 := by simpa [exS, exSh, sh0, nOk, numOkB] using h3
    have hc := count_of h4
    have hl0 : ys.length = 0 := by have : (exS 2).most = 0 := rfl; omega
    simp [nodeA, Nd.op, Nd.n, Nd.m, Nd.at_, Nd.args, argsOf, hl0, h3']
  · rw [e] at h4
    have hnd : ndM K L x = valM K L x.mod x.name := by unfold ndM; rw [if_pos e]
    rw [hnd] at he ⊢
    have hl0 : ys.length = 0 := by have hc := count_of h4; have : (exS 3).most = 0 := rfl; omega
    unfold valM at he ⊢
    by_cases hf : (findM K L x.mod x.name [0, 1, 2]).2 = 0
    · rw [if_neg (by simp [hf])]
      rcases look_fine hf with ⟨a, ha, hx, _⟩ | ⟨y, hy, hx, hk⟩
      · rw [hx]
        have hla := hL _ _ ha
        simp [nodeA, Nd.op, Nd.n, Nd.m, Nd.at_, Nd.args, hl0, hla]
      · rw [hx]
        have hkk := hK.kind _ _ _ hy
        have hk' : y.kind = 1 ∨ y.kind = 2 := by simp at hk; omega
        rcases hk' with k1 | k2
        · rw [if_pos k1]
          have := hK.num _ _ _ hy k1
          simp [nodeA, Nd.op, Nd.n, Nd.m, Nd.at_, Nd.args, hl0, this.1, this.2]
        · rw [if_neg (by omega), if_pos k2]
          have := hK.var _ _ _ hy k2
          simp [nodeA, Nd.op, Nd.n, Nd.m, Nd.at_, Nd.args, hl0, this]
    · rw [if_pos hf] at he
      exact absurd he hf
  · rw [e] at h4
    have hnd : ndM K L x = ⟨4, (findM K L x.mod x.name [3]).1.n, (findM K L x.mod x.name [3]).1.m, (findM K L x.mod x.name [3]).1.at_, (findM K L x.mod x.name [3]).2⟩ := by unfold ndM; rw [if_neg (by omega), if_pos e]
    rw [hnd] at he ⊢
    have hl1 : ys.length = 1 := by have hc := count_of h4; have : (exS 4).most = 1 := rfl; have : (exS 4).least = 1 := rfl; omega
    rcases look_fine he with ⟨a, _, _, hk⟩ | ⟨y, hy, hx, hk⟩
    · simp at hk
    · rw [hx]
      have := hK.arr _ _ _ hy (by simpa using hk)
      simp [nodeA, Nd.op, Nd.n, Nd.m, Nd.at_, Nd.args, hl1, this]
  · have hnd : ndM K L x = ⟨5, 0, (routM K L x.mod x.name x.args.length).1.m, (routM K L x.mod x.name x.args.length).1.at_, (routM K L x.mod x.name x.args.length).2⟩ := by unfold ndM; rw [if_neg (by omega), if_neg (by omega), if_pos e]
    rw [hnd] at he ⊢
    obtain ⟨y, hy, hx, hk, hn⟩ := rout_fine he
    rw [hx]
    have := hK.prc _ _ _ hy hk
    rw [hn] at this
    simp [nodeA, Nd.op, Nd.n, Nd.m, Nd.at_, Nd.args, hl, this]
  · rw [e] at h3 h4
    have hnd : ndM K L x = ⟨x.op, x.n, 0, 0, 0⟩ := by unfold ndM; rw [if_neg (by omega), if_neg (by omega), if_neg (by omega)]
    rw [hnd, e]
    have h3' : x.n = 0 := by simpa [exS, exSh, sh0, nOk, numOkB] using h3
    have hl1 : ys.length = 1 := by have hc := count_of h4; have : (exS 6).most = 1 := rfl; have : (exS 6).least = 1 := rfl; omega
    simp [nodeA, Nd.op, Nd.n, Nd.m, Nd.at_, Nd.args, argsOf, hl1, h3']
  · have hs : exS x.op = ⟨false, false, 2, 2, false, false⟩ := by
      unfold exS exSh; rw [if_neg (by omega), if_neg (by omega), if_neg (by omega), if_neg (by omega), if_neg (by omega), if_neg (by omega), if_pos e]; rfl
    rw [hs] at h3 h4
    have hnd : ndM K L x = ⟨x.op, x.n, 0, 0, 0⟩ := by unfold ndM; rw [if_neg (by omega), if_neg (by omega), if_neg (by omega)]
    rw [hnd]
    have ha : argsOf x.op = 2 := by unfold argsOf; rw [if_neg (by omega), if_neg (by omega), if_pos e]
    have hn : nodeA c (.mk x.op x.n 0 0 ys) = (decide ((ys.length : Int) = argsOf x.op) && (decide (x.n = 0) && (decide ((0 : Int) = 0) && decide ((0 : Int) = 0)))) := by
      unfold nodeA
      exact (if_neg (by show ¬ x.op = 3; omega)).trans ((if_neg (by show ¬ x.op = 4; omega)).trans ((if_neg (by show ¬ x.op = 5; omega)).trans ((if_neg (by show ¬ x.op = 16; omega)).trans (if_neg (by show ¬ x.op = 1; omega)))))
    show nodeA c (.mk x.op x.n 0 0 ys) = true
    rw [hn, ha]
    have h3' : x.n = 0 := by simpa [nOk] using h3
    have hc := count_of h4
    simp only at hc
    rw [decide_eq_true (by omega), decide_eq_true h3']; rfl
theorem rsEs_len {K : Kn} {L : Lc} : ∀ (l : List Ex) (ys : List Nd), rsEs K L l = .ok ys → ys.length = l.length
  | [], ys, h => by rw [rsEs] at h; rw [← Except.ok.inj h]; rfl
  | x :: r, ys, h => by
    rw [rsEs] at h
    obtain ⟨y, _, h⟩ := ok_bind h
    obtain ⟨zs, hz, h⟩ := ok_bind h
    rw [← Except.ok.inj h, List.length_cons, List.length_cons, rsEs_len r zs hz]
theorem rsEs_mem {K : Kn} {L : Lc} : ∀ (l : List Ex) (ys : List Nd), rsEs K L l = .ok ys → ∀ y ∈ ys, ∃ x ∈ l, rsE K L x = .ok y
  | [], ys, h, y, hy => by rw [rsEs] at h; rw [← Except.ok.inj h] at hy; cases hy
  | x :: r, ys, h, y, hy => by
    rw [rsEs] at h
    obtain ⟨z, hz0, h⟩ := ok_bind h
    obtain ⟨zs, hz, h⟩ := ok_bind h
    rw [← Except.ok.inj h] at hy
    rcases List.mem_cons.1 hy with rfl | hy
    · exact ⟨x, by simp, hz0⟩
    · obtain ⟨x', hx', e⟩ := rsEs_mem r zs hz y hy
      exact ⟨x', by simp [hx'], e⟩
theorem nds_hold {c : Ck} {K : Kn} {L : Lc} (hK : GoodK c K) (hL : GoodL c L) : ∀ (k : Nat) (l : List Ex) (ys : List Nd), rsEs K L l = .ok ys → exKinds k l = true → exMany k l = false → exForm k l = true → ndsB c k ys = true
  | 0, l, ys, h, _, h2, _ => by
    have := rsEs_len l ys h
    simp [exMany] at h2
    rw [h2] at this
    simp only [ndsB]
    exact decide_eq_true this
  | k + 1, l, ys, h, h1, h2, h3 => by
    simp only [exKinds, List.all_eq_true] at h1
    simp only [exMany, Bool.or_eq_false_iff] at h2
    simp only [exForm, List.all_eq_true] at h3
    rw [ndsB, List.all_eq_true]
    intro y hy
    obtain ⟨x, hx, e⟩ := rsEs_mem l ys h y hy
    have a1 := h1 x hx
    have a3 := h3 x hx
    have a2 : exMany k x.args = false := by
      have := h2.2
      rw [List.any_eq_false] at this
      simpa using this x hx
    simp only [Bool.and_eq_true] at a1 a3
    rw [rsE_eq] at e
    obtain ⟨al, e1, e⟩ := ok_bind e
    obtain ⟨zs, e2, e⟩ := ok_bind e
    obtain ⟨he, rfl⟩ := ok_al e1
    obtain rfl := Except.ok.inj e
    rw [Bool.and_eq_true]
    exact ⟨node_hold hK hL he (rsEs_len _ _ e2) a1.1 a3.2.1 a3.2.2.1, nds_hold hK hL k x.args zs e2 a1.2 a2 a3.2.2.2⟩
theorem st_range {op : Int} (h : stB op = true) : 1 ≤ op ∧ op ≤ 7 := by
  unfold stB stSh at h
  split at h; · omega
  split at h; · omega
  split at h; · omega
  split at h; · omega
  split at h; · omega
  split at h; · omega
  split at h; · omega
  simp at h
/- A statement without what lies in it. -/
theorem act_hold {c : Ck} {K : Kn} {L : Lc} (hK : GoodK c K) (hL : GoodL c L) {s : St} {ys : List Nd} {b o : List Ac} (he : (acM K L s).err = 0) (hl : ys.length = s.args.length)
    (h1 : stB s.op = true) (h4 : countOk (stS s.op) s.args.length = true) :
    actA c (.mk (acM K L s).op (acM K L s).n (acM K L s).m (acM K L s).at_ ys b o) = true ∧ (acM K L s).op = s.op := by
  have hop := st_range h1
  rcases (by omega : s.op = 1 ∨ s.op = 2 ∨ s.op = 3 ∨ (4 ≤ s.op ∧ s.op ≤ 7)) with e | e | e | e
  · rw [e] at h4
    have hnd : acM K L s = ⟨1, 0, if (findM K L s.mod s.name [0, 2]).1.kind = 0 then -1 else (findM K L s.mod s.name [0, 2]).1.m, (findM K L s.mod s.name [0, 2]).1.at_, (findM K L s.mod s.name [0, 2]).2⟩ := by unfold acM; rw [if_pos e]
    rw [hnd] at he ⊢
    have hl1 : ys.length = 1 := by have hc := count_of h4; have : (stS 1).most = 1 := rfl; have : (stS 1).least = 1 := rfl; omega
    refine ⟨?_, e.symm⟩
    rcases look_fine he with ⟨a, ha, hx, _⟩ | ⟨y, hy, hx, hk⟩
    · rw [hx]
      have hla := hL _ _ ha
      simp [actA, Ac.op, Ac.n, Ac.m, Ac.at_, Ac.args, hl1, hla]
    · rw [hx]
      have hkk := hK.kind _ _ _ hy
      have hm := hK.own _ _ _ hy
      have hk' : y.kind = 2 := by simp at hk; omega
      have := hK.var _ _ _ hy hk'
      simp [actA, Ac.op, Ac.n, Ac.m, Ac.at_, Ac.args, hl1, this, hk', hm]
  · rw [e] at h4
    have hnd : acM K L s = ⟨2, (findM K L s.mod s.name [3]).1.n, (findM K L s.mod s.name [3]).1.m, (findM K L s.mod s.name [3]).1.at_, (findM K L s.mod s.name [3]).2⟩ := by unfold acM; rw [if_neg (by omega), if_pos e]
    rw [hnd] at he ⊢
    have hl1 : ys.length = 2 := by have hc := count_of h4; have : (stS 2).most = 2 := rfl; have : (stS 2).least = 2 := rfl; omega
    refine ⟨?_, e.symm⟩
    rcases look_fine he with ⟨a, _, _, hk⟩ | ⟨y, hy, hx, hk⟩
    · simp at hk
    · rw [hx]
      have := hK.arr _ _ _ hy (by simpa using hk)
      simp [actA, Ac.op, Ac.n, Ac.m, Ac.at_, Ac.args, hl1, this]
  · have hnd : acM K L s = ⟨3, 0, (routM K L s.mod s.name s.args.length).1.m, (routM K L s.mod s.name s.args.length).1.at_, (routM K L s.mod s.name s.args.length).2⟩ := by unfold acM; rw [if_neg (by omega), if_neg (by omega), if_pos e]
    rw [hnd] at he ⊢
    obtain ⟨y, hy, hx, hk, hn⟩ := rout_fine he
    refine ⟨?_, e.symm⟩
    rw [hx]
    have := hK.prc _ _ _ hy hk
    rw [hn] at this
    simp [actA, Ac.op, Ac.n, Ac.m, Ac.at_, Ac.args, hl, this]
  · have hnd : acM K L s = ⟨s.op, 0, 0, 0, 0⟩ := by unfold acM; rw [if_neg (by omega), if_neg (by omega), if_neg (by omega)]
    rw [hnd]
    have hl1 : ys.length = 1 := by
      rcases (by omega : s.op = 4 ∨ s.op = 5 ∨ s.op = 6 ∨ s.op = 7) with e | e | e | e <;> (rw [e] at h4; have hc := count_of h4; have h5 : (stS 4).most = 1 ∧ (stS 4).least = 1 ∧ (stS 5).most = 1 ∧ (stS 5).least = 1 ∧ (stS 6).most = 1 ∧ (stS 6).least = 1 ∧ (stS 7).most = 1 ∧ (stS 7).least = 1 := ⟨rfl, rfl, rfl, rfl, rfl, rfl, rfl, rfl⟩; omega)
    refine ⟨?_, rfl⟩
    have hn : actA c (.mk s.op 0 0 0 ys b o) = (decide (ys.length = 1) && (decide ((0 : Int) = 0) && (decide ((0 : Int) = 0) && decide ((0 : Int) = 0)))) := by
      unfold actA
      exact (if_neg (by show ¬ s.op = 1; omega)).trans ((if_neg (by show ¬ s.op = 2; omega)).trans ((if_neg (by show ¬ s.op = 3; omega)).trans (if_pos e)))
    show actA c (.mk s.op 0 0 0 ys b o) = true
    rw [hn]
    simp [hl1]
theorem rsSs_len {K : Kn} {L : Lc} : ∀ (l : List St) (ys : List Ac), rsSs K L l = .ok ys → ys.length = l.length
  | [], ys, h => by rw [rsSs] at h; rw [← Except.ok.inj h]; rfl
  | x :: r, ys, h => by
    rw [rsSs] at h
    obtain ⟨y, _, h⟩ := ok_bind h
    obtain ⟨zs, hz, h⟩ := ok_bind h
    rw [← Except.ok.inj h, List.length_cons, List.length_cons, rsSs_len r zs hz]
theorem rsSs_mem {K : Kn} {L : Lc} : ∀ (l : List St) (ys : List Ac), rsSs K L l = .ok ys → ∀ y ∈ ys, ∃ x ∈ l, rsS K L x = .ok y
  | [], ys, h, y, hy => by rw [rsSs] at h; rw [← Except.ok.inj h] at hy; cases hy
  | x :: r, ys, h, y, hy => by
    rw [rsSs] at h
    obtain ⟨z, hz0, h⟩ := ok_bind h
    obtain ⟨zs, hz, h⟩ := ok_bind h
    rw [← Except.ok.inj h] at hy
    rcases List.mem_cons.1 hy with rfl | hy
    · exact ⟨x, by simp, hz0⟩
    · obtain ⟨x', hx', e⟩ := rsSs_mem r zs hz y hy
      exact ⟨x', by simp [hx'], e⟩
theorem acs_nil (c : Ck) (k : Nat) (h : k ≠ 0) : acsB c k [] = true := by
  obtain ⟨j, rfl⟩ : ∃ j, k = j + 1 := ⟨k - 1, by omega⟩
  rw [acsB_succ]; rfl
theorem acs_hold {c : Ck} {K : Kn} {L : Lc} (hK : GoodK c K) (hL : GoodL c L) : ∀ (k : Nat) (l : List St) (ys : List Ac), rsSs K L l = .ok ys → stKinds k l = true → stMany k l = false → stForm k l = true → acsB c k ys = true
  | 0, l, ys, _, _, h2, _ => by simp [stMany] at h2
  | k + 1, l, ys, h, h1, h2, h3 => by
    have hlen := rsSs_len l ys h
    simp only [stKinds, List.all_eq_true] at h1
    simp only [stMany, Bool.or_eq_false_iff] at h2
    simp only [stForm, List.all_eq_true] at h3
    have h10 := of_decide_eq_false h2.1
    rw [acsB_succ, decide_eq_true (by omega), Bool.true_and, List.all_eq_true]
    intro y hy
    obtain ⟨x, hx, e⟩ := rsSs_mem l ys h y hy
    have a1 := h1 x hx
    have a3 := h3 x hx
    have a2 := h2.2
    rw [List.any_eq_false] at a2
    have a2 := a2 x hx
    simp only [Bool.and_eq_true] at a1 a3
    simp only [Bool.not_eq_true, Bool.or_eq_false_iff, Bool.and_eq_false_iff] at a2
    rw [rsS_eq] at e
    obtain ⟨al, e1, e⟩ := ok_bind e
    obtain ⟨zs, e2, e⟩ := ok_bind e
    obtain ⟨bs, e3, e⟩ := ok_bind e
    obtain ⟨os, e4, e⟩ := ok_bind e
    obtain ⟨he, rfl⟩ := ok_al e1
    obtain rfl := Except.ok.inj e
    obtain ⟨hA, hop⟩ := act_hold (b := bs) (o := os) hK hL he (rsEs_len _ _ e2) a1.1 a3.2.1
    have hN := nds_hold hK hL 6 x.args zs e2 a1.2.1 a2.1 a3.2.2.1
    have hlb := rsSs_len _ _ e3
    have hlo := rsSs_len _ _ e4
    unfold stmB
    rw [hA, show ndsB c 6 (Ac.mk (acM K L x).op (acM K L x).n (acM K L x).m (acM K L x).at_ zs bs os).args = true from hN, Bool.true_and, Bool.true_and]
    unfold innB
    show (if (acM K L x).op = 4 then acsB c k bs && acsB c k os else if (acM K L x).op = 5 then acsB c k bs && decide (os.length = 0) else decide (bs.length = 0) && decide (os.length = 0)) = true
    rw [hop]
    by_cases o4 : x.op = 4
    · rw [if_pos o4]
      have hb : stMany k x.body = false := by
        rcases a2.2.1 with h | h
        · rw [o4] at h; simp [stS, stSh] at h
        · exact h
      have hk : k ≠ 0 := fun h0 => by rw [h0] at hb; simp [stMany] at hb
      have b1 := acs_hold hK hL k x.body bs e3 a1.2.2.1 hb a3.2.2.2.2.2.1
      have b2 : acsB c k os = true := by
        rcases a2.2.2 with h | h
        · have : x.other = [] := dec_nil h
          rw [this] at hlo
          rw [List.eq_nil_of_length_eq_zero hlo]
          exact acs_nil c k hk
        · exact acs_hold hK hL k x.other os e4 a1.2.2.2 h a3.2.2.2.2.2.2
      rw [b1, b2]; rfl
    · rw [if_neg o4]
      by_cases o5 : x.op = 5
      · rw [if_pos o5]
        have hb : stMany k x.body = false := by
          rcases a2.2.1 with h | h
          · rw [o5] at h; simp [stS, stSh] at h
          · exact h
        have b1 := acs_hold hK hL k x.body bs e3 a1.2.2.1 hb a3.2.2.2.2.2.1
        have ho : x.other.length = 0 := by
          have := a3.2.2.2.2.1
          rw [o5] at this
          simpa [stS, stSh] using this
        rw [b1, decide_eq_true (by omega)]; rfl
      · rw [if_neg o5]
        have hop' := st_range a1.1
        have hs : (stS x.op).body = false ∧ (stS x.op).other = false := by
          rcases (by omega : x.op = 1 ∨ x.op = 2 ∨ x.op = 3 ∨ x.op = 6 ∨ x.op = 7) with e | e | e | e | e <;> (rw [e]; exact ⟨rfl, rfl⟩)
        have hb : x.body.length = 0 := by
          have := a3.2.2.2.1
          rw [hs.1] at this
          simpa using this
        have ho : x.other.length = 0 := by
          have := a3.2.2.2.2.1
          rw [hs.2] at this
          simpa using this
        rw [decide_eq_true (by omega), decide_eq_true (by omega)]; rfl
end Go.Proofs.YtndkhgakfodldaaGreatDoor
