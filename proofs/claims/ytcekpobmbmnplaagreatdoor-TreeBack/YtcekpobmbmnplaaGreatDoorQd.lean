/-
  Right modules: each part is as it must be; their tokens are right, and not too many for memory.
-/
import Derived.Test.YtcekpobmbmnplaaGreatDoorQb
namespace Go.Proofs.YtcekpobmbmnplaaGreatDoor
open Go.RowKit

inductive exOk : Ex → Prop
  | mk {op n : Int} {m nm : ByteArray} {args : List Ex} (h1 : exB op = true) (h2 : refOk (exS op) m nm = true) (h3 : nOk (exS op) n = true) (h4 : countOk (exS op) args.length = true) (h5 : ∀ a ∈ args, exOk a) : exOk (.mk op n m nm args)
theorem ex_ok : ∀ (k : Nat) (l : List Ex), exKinds k l = true → exMany k l = false → exForm k l = true → ∀ x ∈ l, exOk x
  | 0, l, _, h2, _, x, hx => by
    simp [exMany] at h2
    rw [h2] at hx
    cases hx
  | k + 1, l, h1, h2, h3, x, hx => by
    simp only [exKinds, List.all_eq_true] at h1
    simp only [exMany, Bool.or_eq_false_iff] at h2
    simp only [exForm, List.all_eq_true] at h3
    have a1 := h1 x hx
    have a3 := h3 x hx
    have a2 : exMany k x.args = false := by
      have := h2.2
      rw [List.any_eq_false] at this
      simpa using this x hx
    simp only [Bool.and_eq_true] at a1 a3
    obtain ⟨op, n, m, nm, args⟩ := x
    exact .mk a1.1 a3.1 a3.2.1 a3.2.2.1 (ex_ok k args a1.2 a2 a3.2.2.2)
theorem dec_nil {α : Type} {l : List α} (h : decide (0 < l.length) = false) : l = [] := List.eq_nil_of_length_eq_zero (by have := of_decide_eq_false h; omega)
inductive stOk : St → Prop
  | mk {op : Int} {m nm : ByteArray} {args : List Ex} {body other : List St} (h1 : stB op = true) (h2 : refOk (stS op) m nm = true) (h3 : countOk (stS op) args.length = true) (h4 : ∀ a ∈ args, exOk a) (h5 : (stS op).body = true ∨ body = []) (h6 : (stS op).other = true ∨ other = []) (h7 : ∀ s ∈ body, stOk s) (h8 : ∀ s ∈ other, stOk s) : stOk (.mk op m nm args body other)
theorem st_ok : ∀ (k : Nat) (l : List St), stKinds k l = true → stMany k l = false → stForm k l = true → ∀ s ∈ l, stOk s
  | 0, l, _, h2, _, x, hx => by simp [stMany] at h2
  | k + 1, l, h1, h2, h3, x, hx => by
    simp only [stKinds, List.all_eq_true] at h1
    simp only [stMany, Bool.or_eq_false_iff] at h2
    simp only [stForm, List.all_eq_true] at h3
    have a1 := h1 x hx
    have a3 := h3 x hx
    have a2 := h2.2
    rw [List.any_eq_false] at a2
    have a2 := a2 x hx
    simp only [Bool.and_eq_true] at a1 a3
    simp only [Bool.not_eq_true, Bool.or_eq_false_iff, Bool.and_eq_false_iff] at a2
    obtain ⟨op, m, nm, args, body, other⟩ := x
    have hb : (stS op).body = true ∨ body = [] := by
      have := a3.2.2.2.1
      simp [St.op, St.body] at this
      exact this
    have ho : (stS op).other = true ∨ other = [] := by
      have := a3.2.2.2.2.1
      simp [St.op, St.other] at this
      exact this
    have hbm : body = [] ∨ stMany k body = false := by
      rcases a2.2.1 with h | h
      · left
        simp [St.op, St.body] at h
        exact dec_nil h.2
      · exact Or.inr h
    have hom : other = [] ∨ stMany k other = false := by
      rcases a2.2.2 with h | h
      · left
        exact dec_nil h
      · exact Or.inr h
    refine .mk a1.1 a3.1 a3.2.1 (ex_ok 6 args a1.2.1 a2.1 a3.2.2.1) hb ho ?_ ?_
    · rcases hbm with h | h
      · rw [h]; intro s hs; cases hs
      · exact st_ok k body a1.2.2.1 h a3.2.2.2.2.2.1
    · rcases hom with h | h
      · rw [h]; intro s hs; cases hs
      · exact st_ok k other a1.2.2.2 h a3.2.2.2.2.2.2
/- a right module -/
structure moOk (m : Mo) : Prop where
  name : nameOk m.name = true
  uses : ∀ u ∈ m.uses, nameOk u = true
  decls : ∀ d ∈ m.decls, nameOk d.name = true ∧ sizeOk d = true ∧ 1 ≤ d.kind ∧ d.kind ≤ 3
  procs : ∀ p ∈ m.procs, nameOk p.name = true ∧ (∀ n ∈ p.params, nameOk n = true) ∧ (∀ n ∈ p.locals, nameOk n = true) ∧ (∀ s ∈ p.body, stOk s)
  main : ∀ s ∈ m.main, stOk s
theorem err_zero {m : Mo} (h : m.err = 0) : m.kinds = true ∧ m.many = false ∧ m.form = true := by
  unfold Mo.err at h
  cases hk : m.kinds with
  | false => rw [hk] at h; simp at h
  | true =>
    rw [hk] at h
    cases hm : m.many with
    | true => rw [hm] at h; simp at h
    | false =>
      rw [hm] at h
      cases hf : m.form with
      | false => rw [hf] at h; simp at h
      | true => exact ⟨rfl, rfl, rfl⟩
theorem mo_ok {m : Mo} (h : m.err = 0) : moOk m := by
  obtain ⟨hk, hm, hf⟩ := err_zero h
  unfold Mo.kinds at hk
  unfold Mo.many at hm
  unfold Mo.form at hf
  simp only [Bool.and_eq_true, List.all_eq_true, decide_eq_true_eq] at hk hf
  simp only [Bool.or_eq_false_iff] at hm
  have hmb := hm.2.2.2.2
  rw [List.any_eq_false] at hmb
  have body : ∀ b ∈ m.bodies, ∀ s ∈ b, stOk s := fun b hb => st_ok 6 b (hk.2 b hb) (by simpa using hmb b hb) (hf.2.2.2.2 b hb)
  exact {
    name := hf.1
    uses := hf.2.1
    decls := fun d hd => ⟨(hf.2.2.1 d hd).1, (hf.2.2.1 d hd).2, hk.1 d hd⟩
    procs := fun p hp => ⟨(hf.2.2.2.1 p hp).1, (hf.2.2.2.1 p hp).2.1, (hf.2.2.2.1 p hp).2.2, body p.body (by unfold Mo.bodies; simp; exact Or.inl ⟨p, hp, rfl⟩)⟩
    main := body m.main (by unfold Mo.bodies; simp) }
/- tokens that are right -/
theorem Right.append {a b : List Tk} (h : Right a) (k : Right b) : Right (a ++ b) := ⟨by rw [List.all_append, h.1, k.1]; rfl, by rw [List.all_append, h.2, k.2]; rfl⟩
theorem Right.cons {t : Tk} {b : List Tk} (h : Right [t]) (k : Right b) : Right (t :: b) := Right.append (a := [t]) h k
theorem Right.nil : Right [] := ⟨rfl, rfl⟩
theorem r_name {s : ByteArray} (h : nameOk s = true) : Right [wTk s] := by
  unfold nameOk at h
  simp at h
  refine ⟨rfl, ?_⟩
  simp [wTk, Tk.okB, h.2]
theorem r_num {n : Int} (h0 : 0 ≤ n) (h1 : n ≤ 1099511627775) : Right [nTk n] := by
  refine ⟨rfl, ?_⟩
  simp [nTk, Tk.okB, h0, h1, Lib.toList_data]
theorem r_key {t : ByteArray} (h : (Lx.nameB t.data.toList || Lx.signL t.data.toList) = true) : Right [kTk t] := by
  unfold kTk
  cases hn : Lx.nameB t.data.toList with
  | true => exact ⟨rfl, by simp [Tk.okB, hn]⟩
  | false =>
    rw [hn] at h
    exact ⟨rfl, by simpa [Tk.okB] using h⟩
theorem r_ref {m n : ByteArray} (h : nameOk n = true) (k : m.size = 0 ∨ nameOk m = true) : Right (refT m n) := by
  unfold refT
  split
  · exact r_name h
  · rename_i h0
    exact .cons (r_name (k.resolve_left h0)) (.cons (r_key (by decide)) (r_name h))
theorem ref_ok {sh : Sh} {m n : ByteArray} (hn : sh.named = true) (h : refOk sh m n = true) : nameOk n = true ∧ (m.size = 0 ∨ nameOk m = true) := by
  unfold refOk at h
  rw [if_pos hn] at h
  simpa using h
theorem ref_none {sh : Sh} {m n : ByteArray} (hn : sh.named = false) (h : refOk sh m n = true) : m = ⟨#[]⟩ ∧ n = ⟨#[]⟩ := by
  unfold refOk at h
  rw [if_neg (by simp [hn])] at h
  simp only [Bool.and_eq_true, decide_eq_true_eq] at h
  have e : ∀ s : ByteArray, s.size = 0 → s = ⟨#[]⟩ := fun s hs => by
    have : s.data.toList = [] := List.eq_nil_of_length_eq_zero (by rw [Lx.len_toList]; exact hs)
    exact ByteArray.ext (Array.ext' this)
  exact ⟨e _ h.1, e _ h.2⟩
theorem r_commas : ∀ (xs : List (List Tk)), (∀ x ∈ xs, Right x) → Right (commas xs)
  | [], _ => .nil
  | [x], h => h x (by simp)
  | x :: y :: r, h => (h x (by simp)).append (.cons (r_key (by decide)) (r_commas (y :: r) (fun z hz => h z (by simp [hz]))))
theorem r_getD {xs : List (List Tk)} (h : ∀ x ∈ xs, Right x) (i : Nat) : Right (xs.getD i []) := by
  rw [List.getD_eq_getElem?_getD]
  rcases Nat.lt_or_ge i xs.length with hi | hi
  · rw [List.getElem?_eq_getElem hi]; exact h _ (List.getElem_mem hi)
  · rw [List.getElem?_eq_none hi]; exact .nil
theorem tEs_mem {x : List Tk} : ∀ {l : List Ex}, x ∈ tEs l → ∃ y ∈ l, x = tE y
  | [], h => by simp [tEs] at h
  | y :: r, h => by
    simp only [tEs, List.mem_cons] at h
    rcases h with rfl | h
    · exact ⟨y, by simp, rfl⟩
    · obtain ⟨z, hz, e⟩ := tEs_mem h
      exact ⟨z, by simp [hz], e⟩
theorem ex_ops {op : Int} (h : exB op = true) : op = 1 ∨ op = 2 ∨ op = 3 ∨ op = 4 ∨ op = 5 ∨ op = 6 ∨ (7 ≤ op ∧ op ≤ 15) := by
  unfold exB exSh at h
  split at h; · omega
  split at h; · omega
  split at h; · omega
  split at h; · omega
  split at h; · omega
  split at h; · omega
  split at h; · omega
  simp at h
theorem opTk_right {op : Int} (h : 7 ≤ op ∧ op ≤ 15) : Right [opTk op] := by
  unfold opTk
  have hi : (op - 7).toNat < opTexts.length := by show (op - 7).toNat < 9; omega
  rw [List.getD_eq_getElem?_getD, List.getElem?_eq_getElem hi]
  have key : ∀ t ∈ opTexts, (Lx.nameB t.data.toList || Lx.signL t.data.toList) = true := by decide
  exact r_key (key _ (List.getElem_mem hi))
theorem r_ex {x : Ex} (h : exOk x) : Right (tE x) := by
  induction h with
  | @mk op n m nm args h1 h2 h3 h4 h5 ih =>
    have ha : ∀ y ∈ tEs args, Right y := fun y hy => by
      obtain ⟨z, hz, rfl⟩ := tEs_mem hy
      exact ih z hz
    simp only [tE]
    unfold exTok
    rcases ex_ops h1 with rfl | rfl | rfl | rfl | rfl | rfl | hop
    · have : numOkB n = true := h3
      unfold numOkB at this
      simp at this
      exact r_num this.1 this.2
    · exact r_key (by decide)
    · obtain ⟨a, b⟩ := ref_ok rfl h2
      exact r_ref a b
    · obtain ⟨a, b⟩ := ref_ok rfl h2
      exact (r_ref a b).append (.cons (r_key (by decide)) ((r_getD ha 0).append (r_key (by decide))))
    · obtain ⟨a, b⟩ := ref_ok rfl h2
      exact (r_ref a b).append (.cons (r_key (by decide)) ((r_commas _ ha).append (r_key (by decide))))
    · exact .cons (r_key (by decide)) (r_getD ha 0)
    · rw [if_neg (by omega), if_neg (by omega), if_neg (by omega), if_neg (by omega), if_neg (by omega), if_neg (by omega)]
      exact .cons (r_key (by decide)) ((r_getD ha 0).append (.cons (opTk_right hop) ((r_getD ha 1).append (r_key (by decide)))))
theorem r_exs {l : List Ex} (h : ∀ x ∈ l, exOk x) : ∀ y ∈ tEs l, Right y := fun y hy => by
  obtain ⟨z, hz, rfl⟩ := tEs_mem hy
  exact r_ex (h z hz)
theorem st_ops {op : Int} (h : stB op = true) : op = 1 ∨ op = 2 ∨ op = 3 ∨ op = 4 ∨ op = 5 ∨ op = 6 ∨ op = 7 := by
  unfold stB stSh at h
  split at h; · omega
  split at h; · omega
  split at h; · omega
  split at h; · omega
  split at h; · omega
  split at h; · omega
  split at h; · omega
  simp at h
theorem r_br {x : List Tk} (h : Right x) : Right (brT x) := .cons (r_key (by decide)) (h.append (r_key (by decide)))
theorem r_sts : ∀ {l : List St}, (∀ s ∈ l, Right (tS s)) → Right (tSs l)
  | [], _ => by unfold tSs; exact .nil
  | s :: r, h => by
    unfold tSs
    exact (h s (by simp)).append (r_sts (fun x hx => h x (by simp [hx])))
theorem r_line {op : Int} {m nm : ByteArray} {args : List Ex} (h1 : stB op = true) (h2 : refOk (stS op) m nm = true) (h4 : ∀ a ∈ args, exOk a) : Right (lnTok op m nm (tEs args)) := by
  have ha := r_exs h4
  unfold lnTok
  rcases st_ops h1 with rfl | rfl | rfl | rfl | rfl | rfl | rfl
  · obtain ⟨a, b⟩ := ref_ok rfl h2
    exact (r_ref a b).append (.cons (r_key (by decide)) (r_getD ha 0))
  · obtain ⟨a, b⟩ := ref_ok rfl h2
    exact (r_ref a b).append (.cons (r_key (by decide)) ((r_getD ha 0).append (.cons (r_key (by decide)) (.cons (r_key (by decide)) (r_getD ha 1)))))
  · obtain ⟨a, b⟩ := ref_ok rfl h2
    exact (r_ref a b).append (.cons (r_key (by decide)) ((r_commas _ ha).append (r_key (by decide))))
  · exact .cons (r_key (by decide)) (r_getD ha 0)
  · exact .cons (r_key (by decide)) (r_getD ha 0)
  · exact .cons (r_key (by decide)) (r_getD ha 0)
  · exact .cons (r_key (by decide)) (r_getD ha 0)
theorem r_st {s : St} (h : stOk s) : Right (tS s) := by
  induction h with
  | @mk op m nm args body other h1 h2 h3 h4 h5 h6 h7 h8 ih1 ih2 =>
    have ha := r_exs h4
    have hb := r_br (r_sts ih1)
    have ho := r_br (r_sts ih2)
    simp only [tS]
    unfold stTok
    split
    · refine .cons (r_key (by decide)) ((r_getD ha 0).append (hb.append ?_))
      split
      · exact .nil
      · exact .cons (r_key (by decide)) ho
    split
    · exact .cons (r_key (by decide)) ((r_getD ha 0).append hb)
    · exact (r_line h1 h2 h4).append (r_key (by decide))
theorem r_sts' {l : List St} (h : ∀ s ∈ l, stOk s) : Right (tSs l) := r_sts (fun s hs => r_st (h s hs))
end Go.Proofs.YtcekpobmbmnplaaGreatDoor
