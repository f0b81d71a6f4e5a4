/-
  The tokens of a right module are read as that module.
-/
import Derived.Test.YtcekpobmbmnplaaGreatDoorQg
namespace Go.Proofs.YtcekpobmbmnplaaGreatDoor
open Go.RowKit

theorem pub_full (b : Bool) (t : ByteArray) (l : List Tk) (ht : (t.data.toList == tPub.data.toList) = false) : skB (pubT b ++ kTk t :: l) tPub = b ∧ pubL (pubT b ++ kTk t :: l) = kTk t :: l := by
  cases b with
  | true =>
    have h : skB (kTk tPub :: kTk t :: l) tPub = true := by rw [skK]; rfl
    refine ⟨h, ?_⟩
    show (if skB (kTk tPub :: kTk t :: l) tPub = true then _ else _) = _
    rw [if_pos h]; rfl
  | false =>
    have h : skB (kTk t :: l) tPub = false := by rw [skK]; exact ht
    refine ⟨h, ?_⟩
    show (if skB (kTk t :: l) tPub = true then _ else _) = _
    rw [if_neg (by rw [h]; decide)]; rfl
theorem declB_pub (b : Bool) (t : ByteArray) (l : List Tk) (ht : (t.data.toList == tPub.data.toList) = false) : declB (pubT b ++ kTk t :: l) = (t.data.toList == tConst.data.toList || t.data.toList == tVar.data.toList || t.data.toList == tArray.data.toList) := by
  have key : ∀ s : ByteArray, (s.toList == tConst.toList || s.toList == tVar.toList || s.toList == tArray.toList) = (s.data.toList == tConst.data.toList || s.data.toList == tVar.data.toList || s.data.toList == tArray.data.toList) := fun s => by
    rw [Lib.toList_data, Lib.toList_data, Lib.toList_data, Lib.toList_data]
  obtain ⟨h1, _⟩ := pub_full b t l ht
  unfold declB
  rw [h1]
  cases b with
  | true => exact key t
  | false => exact key t
def deOk (d : De) : Prop := nameOk d.name = true ∧ sizeOk d = true ∧ 1 ≤ d.kind ∧ d.kind ≤ 3
theorem decl_full {d : De} (h : deOk d) (r : List Tk) : pDecl (tD d ++ r) = some (d, r) ∧ declB (tD d ++ r) = true := by
  obtain ⟨kind, name, pub, n⟩ := d
  obtain ⟨hn, hs, h1, h3⟩ := h
  simp only at hn h1 h3
  have hk : kind = 1 ∨ kind = 2 ∨ kind = 3 := by omega
  rcases hk with rfl | rfl | rfl
  · rw [show tD ⟨1, name, pub, n⟩ ++ r = pubT pub ++ kTk tConst :: (wTk name :: kTk tEq :: nTk n :: kTk tSem :: r) from by simp [tD]]
    obtain ⟨p1, p2⟩ := pub_full pub tConst (wTk name :: kTk tEq :: nTk n :: kTk tSem :: r) (by decide)
    refine ⟨?_, by rw [declB_pub _ _ _ (by decide)]; decide⟩
    unfold pDecl
    rw [p1, p2, if_pos (by rw [skK]; rfl)]
    show (match pName (wTk name :: kTk tEq :: nTk n :: kTk tSem :: r) with
      | none => none
      | some (n, l1) => if skB l1 tEq then (match pNum l1.tail with | none => none | some (k, l2) => if skB l2 tSem then some ((⟨1, n, pub, k⟩ : De), l2.tail) else none) else none) = _
    rw [pNameW hn]
    show (if skB (kTk tEq :: nTk n :: kTk tSem :: r) tEq = true then (match pNum (nTk n :: kTk tSem :: r) with | none => none | some (k, l2) => if skB l2 tSem then some ((⟨1, name, pub, k⟩ : De), l2.tail) else none) else none) = _
    rw [if_pos (by rw [skK]; rfl), pNumN]
    show (if skB (kTk tSem :: r) tSem = true then _ else _) = _
    rw [if_pos (by rw [skK]; rfl)]; rfl
  · have h0 : n = 0 := of_decide_eq_true hs
    subst h0
    rw [show tD ⟨2, name, pub, 0⟩ ++ r = pubT pub ++ kTk tVar :: (wTk name :: kTk tSem :: r) from by simp [tD]]
    obtain ⟨p1, p2⟩ := pub_full pub tVar (wTk name :: kTk tSem :: r) (by decide)
    refine ⟨?_, by rw [declB_pub _ _ _ (by decide)]; decide⟩
    unfold pDecl
    rw [p1, p2, if_neg (by rw [skK]; decide), if_pos (by rw [skK]; rfl)]
    show (match pName (wTk name :: kTk tSem :: r) with
      | none => none
      | some (n, l1) => if skB l1 tSem then some ((⟨2, n, pub, 0⟩ : De), l1.tail) else none) = _
    rw [pNameW hn]
    show (if skB (kTk tSem :: r) tSem = true then _ else _) = _
    rw [if_pos (by rw [skK]; rfl)]; rfl
  · rw [show tD ⟨3, name, pub, n⟩ ++ r = pubT pub ++ kTk tArray :: (wTk name :: kTk tLs :: nTk n :: kTk tRs :: kTk tSem :: r) from by simp [tD]]
    obtain ⟨p1, p2⟩ := pub_full pub tArray (wTk name :: kTk tLs :: nTk n :: kTk tRs :: kTk tSem :: r) (by decide)
    refine ⟨?_, by rw [declB_pub _ _ _ (by decide)]; decide⟩
    unfold pDecl
    rw [p1, p2, if_neg (by rw [skK]; decide), if_neg (by rw [skK]; decide), if_pos (by rw [skK]; rfl)]
    show (match pName (wTk name :: kTk tLs :: nTk n :: kTk tRs :: kTk tSem :: r) with
      | none => none
      | some (n, l1) => if skB l1 tLs then (match pNum l1.tail with | none => none | some (k, l2) => if skB l2 tRs then (if skB l2.tail tSem then some ((⟨3, n, pub, k⟩ : De), l2.tail.tail) else none) else none) else none) = _
    rw [pNameW hn]
    show (if skB (kTk tLs :: nTk n :: kTk tRs :: kTk tSem :: r) tLs = true then (match pNum (nTk n :: kTk tRs :: kTk tSem :: r) with | none => none | some (k, l2) => if skB l2 tRs then (if skB l2.tail tSem then some ((⟨3, name, pub, k⟩ : De), l2.tail.tail) else none) else none) else none) = _
    rw [if_pos (by rw [skK]; rfl), pNumN]
    show (if skB (kTk tRs :: kTk tSem :: r) tRs = true then (if skB (kTk tSem :: r) tSem = true then _ else _) else _) = _
    rw [if_pos (by rw [skK]; rfl), if_pos (by rw [skK]; rfl)]; rfl
theorem decls_full : ∀ (ds : List De), (∀ d ∈ ds, deOk d) → ∀ (f : Nat) (acc : List De) (r : List Tk), ds.length < f → declB r = false → pDecls f acc (ds.flatMap tD ++ r) = some (acc ++ ds, r)
  | [], _, f, acc, r, hf, hr => by
    obtain ⟨f, rfl⟩ : ∃ g, f = g + 1 := ⟨f - 1, by omega⟩
    show pDecls (f + 1) acc r = _
    rw [pDecls, if_neg (by rw [hr]; decide), List.append_nil]
  | d :: ds, h, f, acc, r, hf, hr => by
    obtain ⟨f, rfl⟩ : ∃ g, f = g + 1 := ⟨f - 1, by omega⟩
    simp only [List.length_cons] at hf
    obtain ⟨h1, h2⟩ := decl_full (h d (by simp)) (ds.flatMap tD ++ r)
    rw [List.flatMap_cons, List.append_assoc, pDecls, if_pos h2, h1]
    show pDecls f (acc ++ [d]) _ = _
    rw [decls_full ds (fun x hx => h x (by simp [hx])) f (acc ++ [d]) r (by omega) hr]
    simp
theorem list_full (t : ByteArray) : ∀ (ls : List ByteArray), (∀ n ∈ ls, nameOk n = true) → ∀ (f : Nat) (acc : List ByteArray) (r : List Tk), ls.length < f → skB r t = false → pList t f acc (lstT t ls ++ r) = some (acc ++ ls, r)
  | [], _, f, acc, r, hf, hr => by
    obtain ⟨f, rfl⟩ : ∃ g, f = g + 1 := ⟨f - 1, by omega⟩
    show pList t (f + 1) acc r = _
    rw [pList, if_neg (by rw [hr]; decide), List.append_nil]
  | n :: ls, h, f, acc, r, hf, hr => by
    obtain ⟨f, rfl⟩ : ∃ g, f = g + 1 := ⟨f - 1, by omega⟩
    simp only [List.length_cons] at hf
    rw [show lstT t (n :: ls) ++ r = kTk t :: wTk n :: kTk tSem :: (lstT t ls ++ r) from by simp [lstT]]
    rw [pList, if_pos (by rw [skK]; exact beq_self_eq_true _)]
    show (match pName (wTk n :: kTk tSem :: (lstT t ls ++ r)) with | none => none | some (n, l1) => if skB l1 tSem then pList t f (acc ++ [n]) l1.tail else none) = _
    rw [pNameW (h n (by simp))]
    show (if skB (kTk tSem :: (lstT t ls ++ r)) tSem = true then pList t f (acc ++ [n]) (lstT t ls ++ r) else _) = _
    rw [if_pos (by rw [skK]; rfl), list_full t ls (fun x hx => h x (by simp [hx])) f (acc ++ [n]) r (by omega) hr]
    simp
def moreN (ps : List ByteArray) : List Tk := ps.flatMap (fun n => [kTk tCom, wTk n])
theorem namesC_more : ∀ (n : ByteArray) (ps : List ByteArray), namesC (n :: ps) = wTk n :: moreN ps
  | n, [] => by simp [namesC, commas, moreN]
  | n, m :: r => by
    have := namesC_more m r
    unfold namesC at this ⊢
    simp only [List.map_cons] at this ⊢
    simp only [commas, this, moreN, List.flatMap_cons]
    simp
theorem params_full : ∀ (ps : List ByteArray), (∀ n ∈ ps, nameOk n = true) → ∀ (f : Nat) (acc : List ByteArray) (r : List Tk), ps.length < f → pParams f acc (moreN ps ++ kTk tRp :: r) = some (acc ++ ps, r)
  | [], _, f, acc, r, hf => by
    obtain ⟨f, rfl⟩ : ∃ g, f = g + 1 := ⟨f - 1, by omega⟩
    show pParams (f + 1) acc (kTk tRp :: r) = _
    rw [pParams, if_neg (by rw [skK]; decide), if_pos (by rw [skK]; rfl), List.append_nil]; rfl
  | n :: ps, h, f, acc, r, hf => by
    obtain ⟨f, rfl⟩ : ∃ g, f = g + 1 := ⟨f - 1, by omega⟩
    simp only [List.length_cons] at hf
    rw [show moreN (n :: ps) ++ kTk tRp :: r = kTk tCom :: wTk n :: (moreN ps ++ kTk tRp :: r) from by simp [moreN]]
    rw [pParams, if_pos (by rw [skK]; rfl)]
    show (match pName (wTk n :: (moreN ps ++ kTk tRp :: r)) with | none => none | some (n, l1) => pParams f (acc ++ [n]) l1) = _
    rw [pNameW (h n (by simp))]
    show pParams f (acc ++ [n]) _ = _
    rw [params_full ps (fun x hx => h x (by simp [hx])) f (acc ++ [n]) r (by omega)]
    simp
theorem pars_full {ps : List ByteArray} (h : ∀ n ∈ ps, nameOk n = true) (r : List Tk) : pPars (namesC ps ++ kTk tRp :: r) = some (ps, r) := by
  cases ps with
  | nil =>
    show pPars (kTk tRp :: r) = _
    unfold pPars
    rw [if_pos (by rw [skK]; rfl)]; rfl
  | cons n ps =>
    rw [namesC_more]
    show pPars (wTk n :: (moreN ps ++ kTk tRp :: r)) = _
    unfold pPars
    rw [if_neg (by rw [skW (h n (by simp)) _ _ (by decide)]; decide), pNameW (h n (by simp))]
    show pParams ((moreN ps ++ kTk tRp :: r).length + 1) [n] _ = _
    have hl : ps.length ≤ (moreN ps).length := by
      unfold moreN
      clear h
      induction ps with
      | nil => simp
      | cons a r ih => simp only [List.flatMap_cons, List.length_append, List.length_cons, List.length_nil]; omega
    rw [params_full ps (fun x hx => h x (by simp [hx])) _ [n] r (by rw [List.length_append]; omega)]
    rfl
theorem lstT_len (t : ByteArray) (l : List ByteArray) : l.length ≤ (lstT t l).length := by
  unfold lstT
  induction l with
  | nil => simp
  | cons a r ih => simp only [List.flatMap_cons, List.length_append, List.length_cons, List.length_nil]; omega
def prOk (p : Pr) : Prop := nameOk p.name = true ∧ (∀ n ∈ p.params, nameOk n = true) ∧ (∀ n ∈ p.locals, nameOk n = true) ∧ (∀ s ∈ p.body, stOk s)
theorem tP_app (p : Pr) (r : List Tk) : tP p ++ r = pubT p.pub ++ kTk tProc :: (wTk p.name :: kTk tLp :: (namesC p.params ++ kTk tRp :: (lstT tLocal p.locals ++ (brT (tSs p.body) ++ r)))) := by
  simp [tP]
theorem proc_full {p : Pr} (h : prOk p) (r : List Tk) : pProc (tP p ++ r) = some (p, r) := by
  rw [tP_app]
  obtain ⟨name, pub, ps, ls, b⟩ := p
  obtain ⟨hn, hp, hl, hb⟩ := h
  simp only at hn hp hl hb
  obtain ⟨p1, p2⟩ := pub_full pub tProc (wTk name :: kTk tLp :: (namesC ps ++ kTk tRp :: (lstT tLocal ls ++ (brT (tSs b) ++ r)))) (by decide)
  unfold pProc
  simp only
  rw [p1, p2, if_pos (by rw [skK]; rfl)]
  show (match pName (wTk name :: kTk tLp :: (namesC ps ++ kTk tRp :: (lstT tLocal ls ++ (brT (tSs b) ++ r)))) with
    | none => none
    | some (n, l1) => if skB l1 tLp then (match pPars l1.tail with
      | none => none
      | some (ps, l2) => (match pList tLocal (l2.length + 1) [] l2 with
        | none => none
        | some (ls, l3) => (match pB l3 with | none => none | some (b, l4) => some ((⟨n, pub, ps, ls, b⟩ : Pr), l4)))) else none) = _
  rw [pNameW hn]
  show (if skB (kTk tLp :: (namesC ps ++ kTk tRp :: (lstT tLocal ls ++ (brT (tSs b) ++ r)))) tLp = true then (match pPars (namesC ps ++ kTk tRp :: (lstT tLocal ls ++ (brT (tSs b) ++ r))) with
      | none => none
      | some (ps, l2) => (match pList tLocal (l2.length + 1) [] l2 with
        | none => none
        | some (ls, l3) => (match pB l3 with | none => none | some (b, l4) => some ((⟨name, pub, ps, ls, b⟩ : Pr), l4)))) else none) = _
  rw [if_pos (by rw [skK]; rfl), pars_full hp]
  show (match pList tLocal ((lstT tLocal ls ++ (brT (tSs b) ++ r)).length + 1) [] (lstT tLocal ls ++ (brT (tSs b) ++ r)) with
        | none => none
        | some (ls, l3) => (match pB l3 with | none => none | some (b, l4) => some ((⟨name, pub, ps, ls, b⟩ : Pr), l4))) = _
  have := lstT_len tLocal ls
  rw [list_full tLocal ls hl _ [] _ (by rw [List.length_append]; omega) (by show skB (kTk tLb :: _) tLocal = false; rw [skK]; decide)]
  show (match pB (brT (tSs b) ++ r) with | none => none | some (b, l4) => some ((⟨name, pub, ps, ls, b⟩ : Pr), l4)) = _
  rw [pB_full hb]
theorem tP_main (p : Pr) (r : List Tk) : skB (tP p ++ r) tMain = false ∧ declB (tP p ++ r) = false ∧ skB (tP p ++ r) tUse = false := by
  rw [tP_app]
  refine ⟨?_, by rw [declB_pub _ _ _ (by decide)]; decide, ?_⟩
  · cases p.pub with
    | true => show skB (kTk tPub :: _) tMain = false; rw [skK]; decide
    | false => show skB (kTk tProc :: _) tMain = false; rw [skK]; decide
  · cases p.pub with
    | true => show skB (kTk tPub :: _) tUse = false; rw [skK]; decide
    | false => show skB (kTk tProc :: _) tUse = false; rw [skK]; decide
theorem procs_full : ∀ (ps : List Pr), (∀ p ∈ ps, prOk p) → ∀ (f : Nat) (acc : List Pr) (r : List Tk), ps.length < f → pProcs f acc (ps.flatMap tP ++ kTk tMain :: r) = some (acc ++ ps, r)
  | [], _, f, acc, r, hf => by
    obtain ⟨f, rfl⟩ : ∃ g, f = g + 1 := ⟨f - 1, by omega⟩
    show pProcs (f + 1) acc (kTk tMain :: r) = _
    rw [pProcs, if_pos (by rw [skK]; rfl), List.append_nil]; rfl
  | p :: ps, h, f, acc, r, hf => by
    obtain ⟨f, rfl⟩ : ∃ g, f = g + 1 := ⟨f - 1, by omega⟩
    simp only [List.length_cons] at hf
    rw [List.flatMap_cons, List.append_assoc, pProcs, if_neg (by rw [(tP_main p _).1]; decide), proc_full (h p (by simp))]
    show pProcs f (acc ++ [p]) _ = _
    rw [procs_full ps (fun x hx => h x (by simp [hx])) f (acc ++ [p]) r (by omega)]
    simp
theorem tail_declB (ps : List Pr) (r : List Tk) : declB (ps.flatMap tP ++ kTk tMain :: r) = false ∧ skB (ps.flatMap tP ++ kTk tMain :: r) tUse = false := by
  cases ps with
  | nil =>
    refine ⟨?_, by show skB (kTk tMain :: r) tUse = false; rw [skK]; decide⟩
    show declB (pubT false ++ kTk tMain :: r) = false
    rw [declB_pub _ _ _ (by decide)]; decide
  | cons p ps =>
    rw [List.flatMap_cons, List.append_assoc]
    exact ⟨(tP_main p _).2.1, (tP_main p _).2.2⟩
theorem decls_use {ds : List De} {r : List Tk} (hr : skB r tUse = false) : skB (ds.flatMap tD ++ r) tUse = false := by
  cases ds with
  | nil => exact hr
  | cons d ds =>
    rw [List.flatMap_cons, List.append_assoc]
    unfold tD
    cases d.pub with
    | true => show skB (kTk tPub :: _) tUse = false; rw [skK]; decide
    | false =>
      show skB ((if d.kind = 1 then _ else _) ++ _) tUse = false
      split
      · show skB (kTk tConst :: _) tUse = false; rw [skK]; decide
      split
      · show skB (kTk tVar :: _) tUse = false; rw [skK]; decide
      · show skB (kTk tArray :: _) tUse = false; rw [skK]; decide
theorem flatT_len {α : Type} (g : α → List Tk) (hg : ∀ x, 0 < (g x).length) : ∀ l : List α, l.length ≤ (l.flatMap g).length
  | [] => by simp
  | x :: r => by
    have h1 := hg x
    have h2 := flatT_len g hg r
    simp only [List.flatMap_cons, List.length_append, List.length_cons]
    omega
theorem module_full {m : Mo} (h : moOk m) : pModule (tM m) = some (m, []) := by
  obtain ⟨name, us, ds, ps, b⟩ := m
  obtain ⟨hn, hu, hd, hp, hb⟩ := h
  simp only at hn hu hd hp hb
  unfold pModule tM
  simp only
  rw [if_pos (by rw [skK]; rfl)]
  generalize hT : kTk tMain :: (brT (tSs b) ++ [kTk tRb]) = T
  show (match pName (wTk name :: kTk tLb :: (lstT tUse us ++ (ds.flatMap tD ++ (ps.flatMap tP ++ T)))) with
    | none => none
    | some (n, l1) => if skB l1 tLb then (match pList tUse (l1.tail.length + 1) [] l1.tail with
      | none => none
      | some (us, l2) => (match pDecls (l2.length + 1) [] l2 with
        | none => none
        | some (ds, l3) => (match pProcs (l3.length + 1) [] l3 with
          | none => none
          | some (ps, l4) => (match pB l4 with
            | none => none
            | some (b, l5) => if skB l5 tRb then some ((⟨n, us, ds, ps, b⟩ : Mo), l5.tail) else none)))) else none) = _
  rw [pNameW hn]
  show (if skB (kTk tLb :: (lstT tUse us ++ (ds.flatMap tD ++ (ps.flatMap tP ++ T)))) tLb = true then (match pList tUse ((lstT tUse us ++ (ds.flatMap tD ++ (ps.flatMap tP ++ T))).length + 1) [] (lstT tUse us ++ (ds.flatMap tD ++ (ps.flatMap tP ++ T))) with
      | none => none
      | some (us, l2) => (match pDecls (l2.length + 1) [] l2 with
        | none => none
        | some (ds, l3) => (match pProcs (l3.length + 1) [] l3 with
          | none => none
          | some (ps, l4) => (match pB l4 with
            | none => none
            | some (b, l5) => if skB l5 tRb then some ((⟨name, us, ds, ps, b⟩ : Mo), l5.tail) else none)))) else none) = _
  have l1 := lstT_len tUse us
  have l2 : ds.length ≤ (ds.flatMap tD).length := flatT_len tD (fun d => by unfold tD; split <;> (try split) <;> simp) ds
  have l3 : ps.length ≤ (ps.flatMap tP).length := flatT_len tP (fun p => by unfold tP; simp only [List.length_append, List.length_cons]; omega) ps
  have hTd : declB (ps.flatMap tP ++ T) = false ∧ skB (ps.flatMap tP ++ T) tUse = false := by rw [← hT]; exact tail_declB ps _
  rw [if_pos (by rw [skK]; rfl), list_full tUse us hu _ [] _ (by rw [List.length_append]; omega) (decls_use hTd.2)]
  show (match pDecls ((ds.flatMap tD ++ (ps.flatMap tP ++ T)).length + 1) [] (ds.flatMap tD ++ (ps.flatMap tP ++ T)) with
        | none => none
        | some (ds, l3) => (match pProcs (l3.length + 1) [] l3 with
          | none => none
          | some (ps, l4) => (match pB l4 with
            | none => none
            | some (b, l5) => if skB l5 tRb then some ((⟨name, us, ds, ps, b⟩ : Mo), l5.tail) else none))) = _
  rw [decls_full ds hd _ [] _ (by rw [List.length_append]; omega) hTd.1]
  show (match pProcs ((ps.flatMap tP ++ T).length + 1) [] (ps.flatMap tP ++ T) with
          | none => none
          | some (ps, l4) => (match pB l4 with
            | none => none
            | some (b, l5) => if skB l5 tRb then some ((⟨name, us, ds, ps, b⟩ : Mo), l5.tail) else none)) = _
  rw [← hT, procs_full ps hp _ [] _ (by rw [List.length_append]; omega)]
  show (match pB (brT (tSs b) ++ [kTk tRb]) with
            | none => none
            | some (b, l5) => if skB l5 tRb then some ((⟨name, us, ds, ps, b⟩ : Mo), l5.tail) else none) = _
  rw [pB_full hb]
  show (if skB (kTk tRb :: []) tRb = true then _ else _) = _
  rw [if_pos (by rw [skK]; rfl)]; rfl
end Go.Proofs.YtcekpobmbmnplaaGreatDoor
