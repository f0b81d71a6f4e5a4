/-
  The tokens of statements, declarations, procedures and modules; what is read has just these.
-/
import Derived.Test.YtndkhgakfodldaaGreatDoorLex
namespace Go.Proofs.YtndkhgakfodldaaGreatDoor
open Go.RowKit

def lnTok (op : Int) (m nm : ByteArray) (xs : List (List Tk)) : List Tk :=
  if op = 1 then refT m nm ++ kTk tEq :: xs.getD 0 []
  else if op = 2 then refT m nm ++ kTk tLs :: (xs.getD 0 [] ++ kTk tRs :: kTk tEq :: xs.getD 1 [])
  else if op = 3 then refT m nm ++ kTk tLp :: (commas xs ++ [kTk tRp])
  else if op = 6 then kTk tReturn :: xs.getD 0 [] else kTk tOut :: xs.getD 0 []
def brT (x : List Tk) : List Tk := kTk tLb :: (x ++ [kTk tRb])
def stTok (op : Int) (m nm : ByteArray) (xs : List (List Tk)) (b o : List Tk) (k : Nat) : List Tk :=
  if op = 4 then kTk tIf :: (xs.getD 0 [] ++ (brT b ++ (if k = 0 then [] else kTk tElse :: brT o)))
  else if op = 5 then kTk tWhile :: (xs.getD 0 [] ++ brT b)
  else lnTok op m nm xs ++ [kTk tSem]
mutual
def tS : St → List Tk
  | .mk op m nm args body other => stTok op m nm (tEs args) (tSs body) (tSs other) other.length
def tSs : List St → List Tk
  | [] => []
  | s :: r => tS s ++ tSs r
end
theorem tSs_append : ∀ (a b : List St), tSs (a ++ b) = tSs a ++ tSs b
  | [], b => by simp [tSs]
  | x :: r, b => by simp [tSs, tSs_append r b]
theorem tSs_one (s : St) : tSs [s] = tS s := by simp [tSs]
theorem st_fine {op : Int} {m nm : ByteArray} {args : List Ex} {body other : List St} (h1 : (Lit.int .i64 op).wf = true) (h3 : args.length ≤ 10000) (h4 : D.fines (exsD args)) (h5 : body.length ≤ 10000) (h6 : D.fines (stsD body)) (h7 : other.length ≤ 10000) (h8 : D.fines (stsD other)) : D.fines (St.mk op m nm args body other).ds := by
  unfold St.ds
  simp only [D.fines, D.fine]
  refine ⟨h1, trivial, trivial, ⟨?_, ?_, h4⟩, ⟨?_, ?_, h6⟩, ⟨?_, ?_, h8⟩, trivial⟩
  · rw [exsD_len]; omega
  · rw [exsD_len]; omega
  · rw [stsD_len]; omega
  · rw [stsD_len]; omega
  · rw [stsD_len]; omega
  · rw [stsD_len]; omega
theorem sts_nil : D.fines (stsD []) := by unfold stsD; exact fines_nil
theorem pX_sound {l l' : List Tk} {x : Ex} (h : pX l = some (x, l')) (hg : Good l) : l = tE x ++ l' ∧ D.fines x.ds := pExpr_sound _ _ _ _ h hg
theorem pAs_sound {l l' : List Tk} {xs : List Ex} (h : pAs l = some (xs, l')) (hg : Good l) : l = commas (tEs xs) ++ kTk tRp :: l' ∧ D.fines (exsD xs) ∧ xs.length ≤ l.length := pArgs_sound _ _ _ _ h hg
def lnOf : St → List Tk
  | .mk op m nm args _ _ => lnTok op m nm (tEs args)
theorem pNamed_sound {l l' : List Tk} {s : St} (h : pNamed l = some (s, l')) (hg : Good l) : l ++ [] = lnOf s ++ l' ∧ D.fines s.ds ∧ s.op ≠ 4 ∧ s.op ≠ 5 := by
  unfold pNamed at h
  split at h
  · cases h
  rename_i m nm l1 h1
  obtain ⟨e1, n1, n2⟩ := ref_tok hg.1 h1
  have g1 := hg.of_eq e1
  split at h
  · rename_i hs
    have e2 := sk_tok g1.1 (by decide) hs
    split at h
    · cases h
    rename_i x l2 h2
    obtain ⟨e3, f3⟩ := pX_sound h2 (g1.tl e2)
    obtain ⟨rfl, rfl⟩ := Prod.mk.inj (Option.some.inj h)
    refine ⟨?_, st_fine (wf_small (by decide) (by decide)) (by simp) (ex_fine1 f3) (by simp) sts_nil (by simp) sts_nil, by simp [St.op], by simp [St.op]⟩
    rw [List.append_nil, e1, e2, show l1.tail = tE x ++ l2 from e3]; simp [lnOf, tEs, lnTok]
  split at h
  · rename_i hs
    have e2 := sk_tok g1.1 (by decide) hs
    split at h
    · cases h
    rename_i x l2 h2
    obtain ⟨e3, f3⟩ := pX_sound h2 (g1.tl e2)
    have g3 := (g1.tl e2).of_eq e3
    split at h
    · rename_i hs2
      have e4 := sk_tok g3.1 (by decide) hs2
      split at h
      · rename_i hs3
        have e5 := sk_tok (g3.tl e4).1 (by decide) hs3
        split at h
        · cases h
        rename_i y l3 h3
        obtain ⟨e6, f6⟩ := pX_sound h3 ((g3.tl e4).tl e5)
        obtain ⟨rfl, rfl⟩ := Prod.mk.inj (Option.some.inj h)
        refine ⟨?_, st_fine (wf_small (by decide) (by decide)) (by simp) (ex_fine2 f3 f6) (by simp) sts_nil (by simp) sts_nil, by simp [St.op], by simp [St.op]⟩
        rw [List.append_nil, e1, e2, show l1.tail = tE x ++ l2 from e3, e4, show l2.tail = kTk tEq :: l2.tail.tail from e5, show l2.tail.tail = tE y ++ l3 from e6]; simp [lnOf, tEs, lnTok]
      · cases h
    · cases h
  split at h
  · rename_i hs
    have e2 := sk_tok g1.1 (by decide) hs
    split at h
    · cases h
    rename_i xs l2 h2
    obtain ⟨e3, f3, c3⟩ := pAs_sound h2 (g1.tl e2)
    have hl3 : l1.tail.length ≤ 4096 := (g1.tl e2).2
    obtain ⟨rfl, rfl⟩ := Prod.mk.inj (Option.some.inj h)
    refine ⟨?_, st_fine (wf_small (by decide) (by decide)) (by omega) f3 (by simp) sts_nil (by simp) sts_nil, by simp [St.op], by simp [St.op]⟩
    rw [List.append_nil, e1, e2, show l1.tail = commas (tEs xs) ++ kTk tRp :: l2 from e3]; simp [lnOf, lnTok]
  · cases h
theorem ended_of {l l1 l2 : List Tk} {s s' : St} {r : Option (St × List Tk)} (h : pEnded r = some (s, l2)) (hr : r = some (s', l1)) (hg : Good l) (e : l = lnOf s' ++ l1) (h4 : s'.op ≠ 4) (h5 : s'.op ≠ 5) : s = s' ∧ l = tS s' ++ l2 := by
  subst hr
  unfold pEnded at h
  simp only at h
  split at h
  · rename_i hs
    have e1 := sk_tok (hg.of_eq e).1 (by decide) hs
    obtain ⟨rfl, rfl⟩ := Prod.mk.inj (Option.some.inj h)
    refine ⟨rfl, ?_⟩
    obtain ⟨op, m, nm, args, body, other⟩ := s'
    have h4' : ¬ op = 4 := h4
    have h5' : ¬ op = 5 := h5
    rw [e, e1]
    simp [lnOf, tS, stTok, h4', h5']
  · cases h
theorem pEnded_some {r : Option (St × List Tk)} {s : St} {l : List Tk} (h : pEnded r = some (s, l)) : ∃ s' l1, r = some (s', l1) := by
  cases r with
  | none => cases h
  | some p => exact ⟨p.1, p.2, rfl⟩
mutual
theorem pStmt_sound : ∀ (f : Nat) (l l' : List Tk) (s : St), pStmt f l = some (s, l') → Good l → l = tS s ++ l' ∧ D.fines s.ds
  | 0, _, _, _, h, _ => by simp [pStmt] at h
  | f + 1, l, l', s, h, hg => by
    unfold pStmt at h
    split at h
    · rename_i hs
      have e := sk_tok hg.1 (by decide) hs
      split at h
      · cases h
      rename_i x l1 h1
      obtain ⟨e1, f1⟩ := pX_sound h1 (hg.tl e)
      have g1 := (hg.tl e).of_eq e1
      split at h
      · cases h
      rename_i b l2 h2
      obtain ⟨e2, f2, c2⟩ := pBlock_sound f _ _ _ h2 g1
      have g2 := g1.of_eq e2
      have k1 := g1.2
      split at h
      · rename_i hs2
        have e3 := sk_tok g2.1 (by decide) hs2
        split at h
        · cases h
        rename_i o l3 h3
        obtain ⟨e4, f4, c4⟩ := pBlock_sound f _ _ _ h3 (g2.tl e3)
        have k2 : l2.tail.length ≤ 4096 := (g2.tl e3).2
        split at h
        · cases h
        rename_i ho
        obtain ⟨rfl, rfl⟩ := Prod.mk.inj (Option.some.inj h)
        refine ⟨?_, st_fine (wf_small (by decide) (by decide)) (by simp) (ex_fine1 f1) (by omega) f2 (by omega) f4⟩
        have ho' : ¬ o = [] := fun h0 => ho (by rw [h0]; rfl)
        rw [e, show l.tail = tE x ++ l1 from e1, e2, e3, show l2.tail = brT (tSs o) ++ l3 from e4]; simp [tS, tEs, stTok, ho']
      · obtain ⟨rfl, rfl⟩ := Prod.mk.inj (Option.some.inj h)
        refine ⟨?_, st_fine (wf_small (by decide) (by decide)) (by simp) (ex_fine1 f1) (by omega) f2 (by simp) sts_nil⟩
        rw [e, show l.tail = tE x ++ l1 from e1, e2]; simp [tS, tEs, stTok]
    split at h
    · rename_i hs
      have e := sk_tok hg.1 (by decide) hs
      split at h
      · cases h
      rename_i x l1 h1
      obtain ⟨e1, f1⟩ := pX_sound h1 (hg.tl e)
      have g1 := (hg.tl e).of_eq e1
      split at h
      · cases h
      rename_i b l2 h2
      obtain ⟨e2, f2, c2⟩ := pBlock_sound f _ _ _ h2 g1
      have k1 := g1.2
      obtain ⟨rfl, rfl⟩ := Prod.mk.inj (Option.some.inj h)
      refine ⟨?_, st_fine (wf_small (by decide) (by decide)) (by simp) (ex_fine1 f1) (by omega) f2 (by simp) sts_nil⟩
      rw [e, show l.tail = tE x ++ l1 from e1, e2]; simp [tS, tEs, stTok]
    split at h
    · rename_i hs
      have e := sk_tok hg.1 (by decide) hs
      cases h1 : pX l.tail with
      | none => rw [h1] at h; cases h
      | some p =>
        obtain ⟨x, l1⟩ := p
        rw [h1] at h
        obtain ⟨e1, f1⟩ := pX_sound h1 (hg.tl e)
        obtain ⟨rfl, e2⟩ := ended_of h rfl hg (by rw [e, e1]; simp [lnOf, lnTok, tEs]) (by simp [St.op]) (by simp [St.op])
        exact ⟨e2, st_fine (wf_small (by decide) (by decide)) (by simp) (ex_fine1 f1) (by simp) sts_nil (by simp) sts_nil⟩
    split at h
    · rename_i hs
      have e := sk_tok hg.1 (by decide) hs
      cases h1 : pX l.tail with
      | none => rw [h1] at h; cases h
      | some p =>
        obtain ⟨x, l1⟩ := p
        rw [h1] at h
        obtain ⟨e1, f1⟩ := pX_sound h1 (hg.tl e)
        obtain ⟨rfl, e2⟩ := ended_of h rfl hg (by rw [e, e1]; simp [lnOf, lnTok, tEs]) (by simp [St.op]) (by simp [St.op])
        exact ⟨e2, st_fine (wf_small (by decide) (by decide)) (by simp) (ex_fine1 f1) (by simp) sts_nil (by simp) sts_nil⟩
    · obtain ⟨s', l1, hr⟩ := pEnded_some h
      obtain ⟨e1, f1, h4, h5⟩ := pNamed_sound hr hg
      rw [List.append_nil] at e1
      obtain ⟨rfl, e2⟩ := ended_of h hr hg e1 h4 h5
      exact ⟨e2, f1⟩
theorem pBlock_sound : ∀ (f : Nat) (l l' : List Tk) (b : List St), pBlock f l = some (b, l') → Good l → l = brT (tSs b) ++ l' ∧ D.fines (stsD b) ∧ b.length ≤ l.length
  | 0, _, _, _, h, _ => by simp [pBlock] at h
  | f + 1, l, l', b, h, hg => by
    unfold pBlock at h
    split at h
    · rename_i hs
      have e := sk_tok hg.1 (by decide) hs
      have hl := skB_lt (by decide) hs
      have k := (hg.tl e).2
      obtain ⟨e1, f1, c1⟩ := pStmts_sound f [] l.tail l' b h (hg.tl e) (by simp at k ⊢; omega) sts_nil
      refine ⟨?_, f1, by simp at c1; omega⟩
      rw [e, show l.tail = tSs b ++ kTk tRb :: l' from by simpa [tSs] using e1]; simp [brT]
    · cases h
theorem pStmts_sound : ∀ (f : Nat) (acc : List St) (l l' : List Tk) (b : List St), pStmts f acc l = some (b, l') → Good l → acc.length + l.length ≤ 10000 → D.fines (stsD acc) → tSs acc ++ l = tSs b ++ kTk tRb :: l' ∧ D.fines (stsD b) ∧ b.length ≤ acc.length + l.length
  | 0, _, _, _, _, h, _, _, _ => by simp [pStmts] at h
  | f + 1, acc, l, l', b, h, hg, hc, hf => by
    unfold pStmts at h
    split at h
    · rename_i hs
      obtain ⟨rfl, rfl⟩ := Prod.mk.inj (Option.some.inj h)
      exact ⟨by rw [← sk_tok hg.1 (by decide) hs], hf, by omega⟩
    split at h
    · cases h
    rename_i s l1 h1
    obtain ⟨e1, f1⟩ := pStmt_sound f _ _ _ h1 hg
    have hlt := pStmt_lt f _ _ _ h1
    obtain ⟨e2, f2, c2⟩ := pStmts_sound f (acc ++ [s]) l1 l' b h (hg.of_eq e1) (by simp; omega) (by rw [stsD_append, stsD_one]; exact D.fines_append hf f1)
    refine ⟨?_, f2, by simp at c2; omega⟩
    rw [← e2, tSs_append, tSs_one, e1]; simp
end
/- declarations, procedures, modules -/
def pubT (b : Bool) : List Tk := if b then [kTk tPub] else []
theorem pub_tok {l : List Tk} (hr : Right l) : l = pubT (skB l tPub) ++ pubL l := by
  unfold pubT pubL
  cases h : skB l tPub with
  | true => exact sk_tok hr (by decide) h
  | false => rfl
def tD (d : De) : List Tk := pubT d.pub ++ (if d.kind = 1 then [kTk tConst, wTk d.name, kTk tEq, nTk d.n, kTk tSem] else if d.kind = 2 then [kTk tVar, wTk d.name, kTk tSem] else [kTk tArray, wTk d.name, kTk tLs, nTk d.n, kTk tRs, kTk tSem])
theorem de_fine {k n : Int} {nm : ByteArray} {p : Bool} (h1 : (Lit.int .i64 k).wf = true) (h2 : (Lit.int .i64 n).wf = true) : D.fines (De.mk k nm p n).ds := by
  simp only [De.ds, D.fines, D.fine]
  exact ⟨h1, trivial, trivial, h2, trivial⟩
theorem pDecl_sound {l l' : List Tk} {d : De} (h : pDecl l = some (d, l')) (hg : Good l) : l = tD d ++ l' ∧ D.fines d.ds := by
  have ep := pub_tok hg.1
  have gp := hg.of_eq ep
  unfold pDecl at h
  split at h
  · rename_i hs
    have e := sk_tok gp.1 (by decide) hs
    split at h
    · cases h
    rename_i n l1 h1
    obtain ⟨e1, n1⟩ := name_tok (gp.tl e).1 h1
    have g1 := (gp.tl e).tl e1
    split at h
    · rename_i hs2
      have e2 := sk_tok g1.1 (by decide) hs2
      split at h
      · cases h
      rename_i k l2 h2
      obtain ⟨e3, k0, k1⟩ := num_tok (g1.tl e2).1 h2
      have g3 := (g1.tl e2).tl e3
      split at h
      · rename_i hs3
        have e4 := sk_tok g3.1 (by decide) hs3
        obtain ⟨rfl, rfl⟩ := Prod.mk.inj (Option.some.inj h)
        refine ⟨?_, de_fine (wf_small (by decide) (by decide)) (wf_small (by omega) (by omega))⟩
        refine ep.trans ?_
        rw [e, show (pubL l).tail = wTk n :: l1 from e1, e2, show l1.tail = nTk k :: l2 from e3, e4]; simp [tD]
      · cases h
    · cases h
  split at h
  · rename_i hs
    have e := sk_tok gp.1 (by decide) hs
    split at h
    · cases h
    rename_i n l1 h1
    obtain ⟨e1, n1⟩ := name_tok (gp.tl e).1 h1
    have g1 := (gp.tl e).tl e1
    split at h
    · rename_i hs3
      have e4 := sk_tok g1.1 (by decide) hs3
      obtain ⟨rfl, rfl⟩ := Prod.mk.inj (Option.some.inj h)
      refine ⟨?_, de_fine (wf_small (by decide) (by decide)) (wf_small (by decide) (by decide))⟩
      refine ep.trans ?_
      rw [e, show (pubL l).tail = wTk n :: l1 from e1, e4]; simp [tD]
    · cases h
  split at h
  · rename_i hs
    have e := sk_tok gp.1 (by decide) hs
    split at h
    · cases h
    rename_i n l1 h1
    obtain ⟨e1, n1⟩ := name_tok (gp.tl e).1 h1
    have g1 := (gp.tl e).tl e1
    split at h
    · rename_i hs2
      have e2 := sk_tok g1.1 (by decide) hs2
      split at h
      · cases h
      rename_i k l2 h2
      obtain ⟨e3, k0, k1⟩ := num_tok (g1.tl e2).1 h2
      have g3 := (g1.tl e2).tl e3
      split at h
      · rename_i hs3
        have e4 := sk_tok g3.1 (by decide) hs3
        split at h
        · rename_i hs4
          have e5 := sk_tok (g3.tl e4).1 (by decide) hs4
          obtain ⟨rfl, rfl⟩ := Prod.mk.inj (Option.some.inj h)
          refine ⟨?_, de_fine (wf_small (by decide) (by decide)) (wf_small (by omega) (by omega))⟩
          refine ep.trans ?_
          rw [e, show (pubL l).tail = wTk n :: l1 from e1, e2, show l1.tail = nTk k :: l2 from e3, e4, show l2.tail = kTk tSem :: l2.tail.tail from e5]; simp [tD]
        · cases h
      · cases h
    · cases h
  · cases h
def namesC (ps : List ByteArray) : List Tk := commas (ps.map (fun n => [wTk n]))
theorem pParams_sound : ∀ (f : Nat) (acc : List ByteArray) (l l' : List Tk) (ps : List ByteArray), pParams f acc l = some (ps, l') → Good l → acc ≠ [] → namesC acc ++ l = namesC ps ++ kTk tRp :: l' ∧ ps.length ≤ acc.length + l.length
  | 0, _, _, _, _, h, _, _ => by simp [pParams] at h
  | f + 1, acc, l, l', ps, h, hg, hne => by
    unfold pParams at h
    split at h
    · rename_i hs
      have e := sk_tok hg.1 (by decide) hs
      have hl := skB_lt (by decide) hs
      split at h
      · cases h
      rename_i n l1 h1
      obtain ⟨e1, _⟩ := name_tok (hg.tl e).1 h1
      have hlt := pName_lt h1
      obtain ⟨e2, c2⟩ := pParams_sound f (acc ++ [n]) l1 l' ps h ((hg.tl e).tl e1) (by simp)
      refine ⟨?_, by simp at c2; omega⟩
      rw [← e2]
      unfold namesC
      rw [List.map_append, show [n].map (fun n => [wTk n]) = [[wTk n]] from rfl, commas_snoc _ _ (by simpa using hne), e, show l.tail = wTk n :: l1 from e1]
      simp
    split at h
    · rename_i hs
      obtain ⟨rfl, rfl⟩ := Prod.mk.inj (Option.some.inj h)
      exact ⟨by rw [← sk_tok hg.1 (by decide) hs], by omega⟩
    · cases h
theorem pPars_sound {l l' : List Tk} {ps : List ByteArray} (h : pPars l = some (ps, l')) (hg : Good l) : l = namesC ps ++ kTk tRp :: l' ∧ ps.length ≤ l.length := by
  unfold pPars at h
  split at h
  · rename_i hs
    obtain ⟨rfl, rfl⟩ := Prod.mk.inj (Option.some.inj h)
    exact ⟨sk_tok hg.1 (by decide) hs, by simp⟩
  split at h
  · cases h
  rename_i n l1 h1
  obtain ⟨e1, _⟩ := name_tok hg.1 h1
  have hlt := pName_lt h1
  obtain ⟨e2, c2⟩ := pParams_sound _ [n] l1 l' ps h (hg.tl e1) (by simp)
  exact ⟨by rw [e1, ← e2]; rfl, by simp at c2; omega⟩
def lstT (t : ByteArray) (l : List ByteArray) : List Tk := l.flatMap (fun n => [kTk t, wTk n, kTk tSem])
theorem pList_sound (t : ByteArray) (ht : 0 < t.size) : ∀ (f : Nat) (acc : List ByteArray) (l l' : List Tk) (ls : List ByteArray), pList t f acc l = some (ls, l') → Good l → lstT t acc ++ l = lstT t ls ++ l' ∧ ls.length ≤ acc.length + l.length
  | 0, _, _, _, _, h, _ => by simp [pList] at h
  | f + 1, acc, l, l', ls, h, hg => by
    unfold pList at h
    split at h
    · rename_i hs
      have e := sk_tok hg.1 ht hs
      have hl := skB_lt ht hs
      split at h
      · cases h
      rename_i n l1 h1
      obtain ⟨e1, _⟩ := name_tok (hg.tl e).1 h1
      have hlt := pName_lt h1
      have g1 := (hg.tl e).tl e1
      split at h
      · rename_i hs2
        have e2 := sk_tok g1.1 (by decide) hs2
        have hl2 := skB_lt (by decide) hs2
        obtain ⟨e3, c3⟩ := pList_sound t ht f (acc ++ [n]) l1.tail l' ls h (g1.tl e2)
        refine ⟨?_, by simp at c3 hl2 ⊢; omega⟩
        rw [← e3, e, show l.tail = wTk n :: l1 from e1]
        conv => lhs; rw [e2]
        simp [lstT]
      · cases h
    · obtain ⟨rfl, rfl⟩ := Prod.mk.inj (Option.some.inj h)
      exact ⟨rfl, by omega⟩
def tP (p : Pr) : List Tk := pubT p.pub ++ kTk tProc :: wTk p.name :: kTk tLp :: (namesC p.params ++ kTk tRp :: (lstT tLocal p.locals ++ brT (tSs p.body)))
theorem strs_fine : ∀ (l : List ByteArray), D.fines (strsD l)
  | [] => fines_nil
  | x :: r => by
    show D.fines (.str x :: strsD r)
    simp only [D.fines, D.fine]
    exact ⟨trivial, strs_fine r⟩
theorem pr_fine {nm : ByteArray} {pb : Bool} {ps ls : List ByteArray} {b : List St} (h1 : ps.length ≤ 10000) (h2 : ls.length ≤ 10000) (h3 : b.length ≤ 10000) (h4 : D.fines (stsD b)) : D.fines (Pr.mk nm pb ps ls b).ds := by
  simp only [Pr.ds, D.fines, D.fine]
  refine ⟨trivial, trivial, ⟨?_, ?_, strs_fine _⟩, ⟨?_, ?_, strs_fine _⟩, ⟨?_, ?_, h4⟩, trivial⟩
  · simp [strsD]
  · simp [strsD]; omega
  · simp [strsD]
  · simp [strsD]; omega
  · rw [stsD_len]; omega
  · rw [stsD_len]; omega
theorem pProc_sound {l l' : List Tk} {p : Pr} (h : pProc l = some (p, l')) (hg : Good l) : l = tP p ++ l' ∧ D.fines p.ds := by
  have ep := pub_tok hg.1
  have gp := hg.of_eq ep
  unfold pProc at h
  split at h
  · rename_i hs
    have e := sk_tok gp.1 (by decide) hs
    split at h
    · cases h
    rename_i n l1 h1
    obtain ⟨e1, n1⟩ := name_tok (gp.tl e).1 h1
    have g1 := (gp.tl e).tl e1
    split at h
    · rename_i hs2
      have e2 := sk_tok g1.1 (by decide) hs2
      have g2 := g1.tl e2
      split at h
      · cases h
      rename_i ps l2 h2
      obtain ⟨e3, c3⟩ := pPars_sound h2 g2
      have g3' := g2.of_eq e3
      have g3 : Good l2 := g3'.tl rfl
      split at h
      · cases h
      rename_i ls l3 h3
      obtain ⟨e4, c4⟩ := pList_sound tLocal (by decide) _ [] _ _ _ h3 g3
      have e4' : l2 = lstT tLocal ls ++ l3 := by simpa [lstT] using e4
      have g4 := g3.of_eq e4'
      split at h
      · cases h
      rename_i b l4 h4
      obtain ⟨e5, f5, c5⟩ := pBlock_sound _ _ _ _ h4 g4
      obtain ⟨rfl, rfl⟩ := Prod.mk.inj (Option.some.inj h)
      have k2 : l1.tail.length ≤ 4096 := g2.2
      have k3 := g3.2
      have k4 := g4.2
      refine ⟨?_, pr_fine (by omega) (by simp at c4; omega) (by omega) f5⟩
      refine ep.trans ?_
      rw [e, show (pubL l).tail = wTk n :: l1 from e1, e2, show l1.tail = namesC ps ++ kTk tRp :: l2 from e3, e4', e5]; simp [tP]
    · cases h
  · cases h
theorem pDecls_sound : ∀ (f : Nat) (acc : List De) (l l' : List Tk) (ds : List De), pDecls f acc l = some (ds, l') → Good l → D.fines (desD acc) → acc.flatMap tD ++ l = ds.flatMap tD ++ l' ∧ D.fines (desD ds) ∧ ds.length ≤ acc.length + l.length
  | 0, _, _, _, _, h, _, _ => by simp [pDecls] at h
  | f + 1, acc, l, l', ds, h, hg, hf => by
    unfold pDecls at h
    split at h
    · split at h
      · cases h
      rename_i d l1 h1
      obtain ⟨e1, f1⟩ := pDecl_sound h1 hg
      have hlt := pDecl_lt h1
      obtain ⟨e2, f2, c2⟩ := pDecls_sound f (acc ++ [d]) l1 l' ds h (hg.of_eq e1) (by rw [show desD (acc ++ [d]) = desD acc ++ d.ds from by simp [desD]]; exact D.fines_append hf f1)
      refine ⟨?_, f2, by simp at c2; omega⟩
      rw [← e2, e1]; simp
    · obtain ⟨rfl, rfl⟩ := Prod.mk.inj (Option.some.inj h)
      exact ⟨rfl, hf, by omega⟩
theorem pProcs_sound : ∀ (f : Nat) (acc : List Pr) (l l' : List Tk) (ps : List Pr), pProcs f acc l = some (ps, l') → Good l → D.fines (prsD acc) → acc.flatMap tP ++ l = ps.flatMap tP ++ kTk tMain :: l' ∧ D.fines (prsD ps) ∧ ps.length ≤ acc.length + l.length
  | 0, _, _, _, _, h, _, _ => by simp [pProcs] at h
  | f + 1, acc, l, l', ps, h, hg, hf => by
    unfold pProcs at h
    split at h
    · rename_i hs
      obtain ⟨rfl, rfl⟩ := Prod.mk.inj (Option.some.inj h)
      exact ⟨by rw [← sk_tok hg.1 (by decide) hs], hf, by omega⟩
    · split at h
      · cases h
      rename_i p l1 h1
      obtain ⟨e1, f1⟩ := pProc_sound h1 hg
      have hlt := pProc_lt h1
      obtain ⟨e2, f2, c2⟩ := pProcs_sound f (acc ++ [p]) l1 l' ps h (hg.of_eq e1) (by rw [show prsD (acc ++ [p]) = prsD acc ++ p.ds from by simp [prsD]]; exact D.fines_append hf f1)
      refine ⟨?_, f2, by simp at c2; omega⟩
      rw [← e2, e1]; simp
def tM (m : Mo) : List Tk := kTk tModule :: wTk m.name :: kTk tLb :: (lstT tUse m.uses ++ (m.decls.flatMap tD ++ (m.procs.flatMap tP ++ kTk tMain :: (brT (tSs m.main) ++ [kTk tRb]))))
/- a module whose numbers are in range and whose lists are not too long -/
structure Fine (m : Mo) : Prop where
  uses : m.uses.length ≤ 10000
  decls : m.decls.length ≤ 10000
  procs : m.procs.length ≤ 10000
  main : m.main.length ≤ 10000
  fd : D.fines (desD m.decls)
  fp : D.fines (prsD m.procs)
  fm : D.fines (stsD m.main)
theorem pModule_sound {l l' : List Tk} {m : Mo} (h : pModule l = some (m, l')) (hg : Good l) : l = tM m ++ l' ∧ Fine m := by
  unfold pModule at h
  split at h
  · rename_i hs
    have e := sk_tok hg.1 (by decide) hs
    split at h
    · cases h
    rename_i n l1 h1
    obtain ⟨e1, n1⟩ := name_tok (hg.tl e).1 h1
    have g1 := (hg.tl e).tl e1
    split at h
    · rename_i hs2
      have e2 := sk_tok g1.1 (by decide) hs2
      have g2 := g1.tl e2
      have k2 : l1.tail.length ≤ 4096 := g2.2
      split at h
      · cases h
      rename_i us l2 h2
      obtain ⟨e3, c3⟩ := pList_sound tUse (by decide) _ [] _ _ _ h2 g2
      have e3' : l1.tail = lstT tUse us ++ l2 := by simpa [lstT] using e3
      have g3 := g2.of_eq e3'
      have k3 := g3.2
      split at h
      · cases h
      rename_i ds l3 h3
      obtain ⟨e4, f4, c4⟩ := pDecls_sound _ [] _ _ _ h3 g3 fines_nil
      have e4' : l2 = ds.flatMap tD ++ l3 := by simpa using e4
      have g4 := g3.of_eq e4'
      have k4 := g4.2
      split at h
      · cases h
      rename_i ps l4 h4
      obtain ⟨e5, f5, c5⟩ := pProcs_sound _ [] _ _ _ h4 g4 fines_nil
      have e5' : l3 = ps.flatMap tP ++ kTk tMain :: l4 := by simpa using e5
      have g5 : Good l4 := (g4.of_eq e5').tl rfl
      have k5 := g5.2
      split at h
      · cases h
      rename_i b l5 h5
      obtain ⟨e6, f6, c6⟩ := pBlock_sound _ _ _ _ h5 g5
      have g6 := g5.of_eq e6
      split at h
      · rename_i hs3
        have e7 := sk_tok g6.1 (by decide) hs3
        obtain ⟨rfl, rfl⟩ := Prod.mk.inj (Option.some.inj h)
        refine ⟨?_, ⟨by show us.length ≤ 10000; simp at c3 k2; omega, by show ds.length ≤ 10000; simp at c4; omega, by show ps.length ≤ 10000; simp at c5; omega, by show b.length ≤ 10000; omega, f4, f5, f6⟩⟩
        rw [e, show l.tail = wTk n :: l1 from e1, e2, e3', e4', e5', e6, e7]; simp [tM]
      · cases h
    · cases h
  · cases h
end Go.Proofs.YtndkhgakfodldaaGreatDoor

namespace Go.Proofs.YtndkhgakfodldaaGreatDoor
open Go.RowKit

inductive exOk : Ex → Prop
  | mk {op n : Int} {m nm : ByteArray} {args : List Ex} (h1 : exB op = true) (h2 : refOk (exS op) m nm = true) (h3 : nOk (exS op) n = true) (h4 : countOk (exS op) args.length = true) (h5 : ∀ a ∈ args, exOk a) : exOk (.mk op n m nm args)
theorem ex_ok : ∀ (k : Nat) (l : List Ex), exKinds k l = true → exMany k l = false → exForm k l = true → ∀ x ∈ l, exOk x
  | 0, l, _, h2, _, x, hx => by
    simp [exMany] at h2
    rw [h2] at hx
    cases hx
  | k + 1, l, h1, h2, h3, x, hx => by
    simp only [exKinds, List.all_eq_true] at h1
    simp only [exMany, Bool.or_eq_false_iff] at h2
    simp only [exForm, List.all_eq_true] at h3
    have a1 := h1 x hx
    have a3 := h3 x hx
    have a2 : exMany k x.args = false := by
      have := h2.2
      rw [List.any_eq_false] at this
      simpa using this x hx
    simp only [Bool.and_eq_true] at a1 a3
    obtain ⟨op, n, m, nm, args⟩ := x
    exact .mk a1.1 a3.1 a3.2.1 a3.2.2.1 (ex_ok k args a1.2 a2 a3.2.2.2)
theorem dec_nil {α : Type} {l : List α} (h : decide (0 < l.length) = false) : l = [] := List.eq_nil_of_length_eq_zero (by have := of_decide_eq_false h; omega)
inductive stOk : St → Prop
  | mk {op : Int} {m nm : ByteArray} {args : List Ex} {body other : List St} (h1 : stB op = true) (h2 : refOk (stS op) m nm = true) (h3 : countOk (stS op) args.length = true) (h4 : ∀ a ∈ args, exOk a) (h5 : (stS op).body = true ∨ body = []) (h6 : (stS op).other = true ∨ other = []) (h7 : ∀ s ∈ body, stOk s) (h8 : ∀ s ∈ other, stOk s) : stOk (.mk op m nm args body other)
theorem st_ok : ∀ (k : Nat) (l : List St), stKinds k l = true → stMany k l = false → stForm k l = true → ∀ s ∈ l, stOk s
  | 0, l, _, h2, _, x, hx => by simp [stMany] at h2
  | k + 1, l, h1, h2, h3, x, hx => by
    simp only [stKinds, List.all_eq_true] at h1
    simp only [stMany, Bool.or_eq_false_iff] at h2
    simp only [stForm, List.all_eq_true] at h3
    have a1 := h1 x hx
    have a3 := h3 x hx
    have a2 := h2.2
    rw [List.any_eq_false] at a2
    have a2 := a2 x hx
    simp only [Bool.and_eq_true] at a1 a3
    simp only [Bool.not_eq_true, Bool.or_eq_false_iff, Bool.and_eq_false_iff] at a2
    obtain ⟨op, m, nm, args, body, other⟩ := x
    have hb : (stS op).body = true ∨ body = [] := by
      have := a3.2.2.2.1
      simp [St.op, St.body] at this
      exact this
    have ho : (stS op).other = true ∨ other = [] := by
      have := a3.2.2.2.2.1
      simp [St.op, St.other] at this
      exact this
    have hbm : body = [] ∨ stMany k body = false := by
      rcases a2.2.1 with h | h
      · left
        simp [St.op, St.body] at h
        exact dec_nil h.2
      · exact Or.inr h
    have hom : other = [] ∨ stMany k other = false := by
      rcases a2.2.2 with h | h
      · left
        exact dec_nil h
      · exact Or.inr h
    refine .mk a1.1 a3.1 a3.2.1 (ex_ok 6 args a1.2.1 a2.1 a3.2.2.1) hb ho ?_ ?_
    · rcases hbm with h | h
      · rw [h]; intro s hs; cases hs
      · exact st_ok k body a1.2.2.1 h a3.2.2.2.2.2.1
    · rcases hom with h | h
      · rw [h]; intro s hs; cases hs
      · exact st_ok k other a1.2.2.2 h a3.2.2.2.2.2.2
/- a right module -/
structure moOk (m : Mo) : Prop where
  name : nameOk m.name = true
  uses : ∀ u ∈ m.uses, nameOk u = true
  decls : ∀ d ∈ m.decls, nameOk d.name = true ∧ sizeOk d = true ∧ 1 ≤ d.kind ∧ d.kind ≤ 3
  procs : ∀ p ∈ m.procs, nameOk p.name = true ∧ (∀ n ∈ p.params, nameOk n = true) ∧ (∀ n ∈ p.locals, nameOk n = true) ∧ (∀ s ∈ p.body, stOk s)
  main : ∀ s ∈ m.main, stOk s
theorem err_zero {m : Mo} (h : m.err = 0) : m.kinds = true ∧ m.many = false ∧ m.form = true := by
  unfold Mo.err at h
  cases hk : m.kinds with
  | false => rw [hk] at h; simp at h
  | true =>
    rw [hk] at h
    cases hm : m.many with
    | true => rw [hm] at h; simp at h
    | false =>
      rw [hm] at h
      cases hf : m.form with
      | false => rw [hf] at h; simp at h
      | true => exact ⟨rfl, rfl, rfl⟩
theorem mo_ok {m : Mo} (h : m.err = 0) : moOk m := by
  obtain ⟨hk, hm, hf⟩ := err_zero h
  unfold Mo.kinds at hk
  unfold Mo.many at hm
  unfold Mo.form at hf
  simp only [Bool.and_eq_true, List.all_eq_true, decide_eq_true_eq] at hk hf
  simp only [Bool.or_eq_false_iff] at hm
  have hmb := hm.2.2.2.2
  rw [List.any_eq_false] at hmb
  have body : ∀ b ∈ m.bodies, ∀ s ∈ b, stOk s := fun b hb => st_ok 6 b (hk.2 b hb) (by simpa using hmb b hb) (hf.2.2.2.2 b hb)
  exact {
    name := hf.1
    uses := hf.2.1
    decls := fun d hd => ⟨(hf.2.2.1 d hd).1, (hf.2.2.1 d hd).2, hk.1 d hd⟩
    procs := fun p hp => ⟨(hf.2.2.2.1 p hp).1, (hf.2.2.2.1 p hp).2.1, (hf.2.2.2.1 p hp).2.2, body p.body (by unfold Mo.bodies; simp; exact Or.inl ⟨p, hp, rfl⟩)⟩
    main := body m.main (by unfold Mo.bodies; simp) }
/- tokens that are right -/
theorem Right.append {a b : List Tk} (h : Right a) (k : Right b) : Right (a ++ b) := ⟨by rw [List.all_append, h.1, k.1]; rfl, by rw [List.all_append, h.2, k.2]; rfl⟩
theorem Right.cons {t : Tk} {b : List Tk} (h : Right [t]) (k : Right b) : Right (t :: b) := Right.append (a := [t]) h k
theorem Right.nil : Right [] := ⟨rfl, rfl⟩
theorem ex_ops {op : Int} (h : exB op = true) : op = 1 ∨ op = 2 ∨ op = 3 ∨ op = 4 ∨ op = 5 ∨ op = 6 ∨ (7 ≤ op ∧ op ≤ 15) := by
  unfold exB exSh at h
  split at h; · omega
  split at h; · omega
  split at h; · omega
  split at h; · omega
  split at h; · omega
  split at h; · omega
  split at h; · omega
  simp at h
end Go.Proofs.YtndkhgakfodldaaGreatDoor
