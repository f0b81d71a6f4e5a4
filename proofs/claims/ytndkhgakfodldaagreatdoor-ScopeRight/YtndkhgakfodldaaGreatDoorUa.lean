/-
  Names without the program: items, faces, units as they lie in memory; what a name stands for; how a body is resolved.
-/
import Derived.Test.YtndkhgakfodldaaGreatDoorTd
import Derived.Maps.OwnSet
namespace Go.Proofs.YtndkhgakfodldaaGreatDoor
open Go.RowKit

/- Expressions and statements whose names are resolved. -/
inductive Nd where
  | mk (op n m at_ : Int) (args : List Nd)
def Nd.op : Nd → Int | .mk op _ _ _ _ => op
def Nd.n : Nd → Int | .mk _ n _ _ _ => n
def Nd.m : Nd → Int | .mk _ _ m _ _ => m
def Nd.at_ : Nd → Int | .mk _ _ _ a _ => a
def Nd.args : Nd → List Nd | .mk _ _ _ _ l => l
inductive Ac where
  | mk (op n m at_ : Int) (args : List Nd) (body other : List Ac)
def Ac.op : Ac → Int | .mk op _ _ _ _ _ _ => op
def Ac.n : Ac → Int | .mk _ n _ _ _ _ _ => n
def Ac.m : Ac → Int | .mk _ _ m _ _ _ _ => m
def Ac.at_ : Ac → Int | .mk _ _ _ a _ _ _ => a
def Ac.args : Ac → List Nd | .mk _ _ _ _ l _ _ => l
def Ac.body : Ac → List Ac | .mk _ _ _ _ _ l _ => l
def Ac.other : Ac → List Ac | .mk _ _ _ _ _ _ l => l
mutual
def Nd.ds : Nd → List D
  | .mk op n m a args => [.int op, .int n, .int m, .int a, .list args.length (ndsD args)]
def ndsD : List Nd → List D
  | [] => []
  | x :: r => x.ds ++ ndsD r
end
mutual
def Ac.ds : Ac → List D
  | .mk op n m a args body other => [.int op, .int n, .int m, .int a, .list args.length (ndsD args), .list body.length (acsD body), .list other.length (acsD other)]
def acsD : List Ac → List D
  | [] => []
  | x :: r => x.ds ++ acsD r
end
theorem Nd.ds_len (x : Nd) : x.ds.length = 5 := by cases x; unfold Nd.ds; rfl
theorem Ac.ds_len (x : Ac) : x.ds.length = 7 := by cases x; unfold Ac.ds; rfl
theorem ndsD_append : ∀ (l m : List Nd), ndsD (l ++ m) = ndsD l ++ ndsD m
  | [], m => by simp [ndsD]
  | x :: r, m => by simp [ndsD, ndsD_append r m]
theorem acsD_append : ∀ (l m : List Ac), acsD (l ++ m) = acsD l ++ acsD m
  | [], m => by simp [acsD]
  | x :: r, m => by simp [acsD, acsD_append r m]
theorem ndsD_one (x : Nd) : ndsD [x] = x.ds := by simp [ndsD]
theorem acsD_one (x : Ac) : acsD [x] = x.ds := by simp [acsD]
structure Pt where
  params : Int
  locals : Int
  body : List Ac
def Pt.ds (p : Pt) : List D := [.int p.params, .int p.locals, .list p.body.length (acsD p.body)]
def ptsD (l : List Pt) : List D := l.flatMap Pt.ds
structure Un where
  name : ByteArray
  uses : List ByteArray
  data : Int
  parts : List Pt
  main : List Ac

/- What names stand for. -/
structure Mg where
  kind : Int
  n : Int
  m : Int
  at_ : Int
def mg0 : Mg := ⟨0, 0, 0, 0⟩
abbrev Kn := ByteArray → ByteArray → Option Mg
abbrev Lc := ByteArray → Option Int
def lookM (K : Kn) (L : Lc) (mod name : ByteArray) : Option Mg :=
  if mod.size = 0 then (match L name with | some a => some ⟨0, 0, 0, a⟩ | none => K mod name) else K mod name
def findM (K : Kn) (L : Lc) (mod name : ByteArray) (ks : List Int) : Mg × Int :=
  match lookM K L mod name with
  | none => (mg0, 5)
  | some x => if ks.contains x.kind then (x, 0) else (mg0, 7)
def routM (K : Kn) (L : Lc) (mod name : ByteArray) (handed : Int) : Mg × Int :=
  if (findM K L mod name [4]).2 = 0 ∧ (findM K L mod name [4]).1.n ≠ handed then (mg0, 8) else findM K L mod name [4]
/- Of an expression, of a statement, without what lies in it: Op, N, M, At, and the error. -/
structure Al where
  op : Int
  n : Int
  m : Int
  at_ : Int
  err : Int
def valM (K : Kn) (L : Lc) (mod name : ByteArray) : Al :=
  if (findM K L mod name [0, 1, 2]).2 ≠ 0 then ⟨0, 0, 0, 0, (findM K L mod name [0, 1, 2]).2⟩
  else if (findM K L mod name [0, 1, 2]).1.kind = 1 then ⟨1, (findM K L mod name [0, 1, 2]).1.n, 0, 0, 0⟩
  else if (findM K L mod name [0, 1, 2]).1.kind = 2 then ⟨3, 0, (findM K L mod name [0, 1, 2]).1.m, (findM K L mod name [0, 1, 2]).1.at_, 0⟩
  else ⟨16, 0, 0, (findM K L mod name [0, 1, 2]).1.at_, 0⟩
def ndM (K : Kn) (L : Lc) (x : Ex) : Al :=
  if x.op = 3 then valM K L x.mod x.name
  else if x.op = 4 then ⟨4, (findM K L x.mod x.name [3]).1.n, (findM K L x.mod x.name [3]).1.m, (findM K L x.mod x.name [3]).1.at_, (findM K L x.mod x.name [3]).2⟩
  else if x.op = 5 then ⟨5, 0, (routM K L x.mod x.name x.args.length).1.m, (routM K L x.mod x.name x.args.length).1.at_, (routM K L x.mod x.name x.args.length).2⟩
  else ⟨x.op, x.n, 0, 0, 0⟩
def acM (K : Kn) (L : Lc) (s : St) : Al :=
  if s.op = 1 then ⟨1, 0, if (findM K L s.mod s.name [0, 2]).1.kind = 0 then -1 else (findM K L s.mod s.name [0, 2]).1.m, (findM K L s.mod s.name [0, 2]).1.at_, (findM K L s.mod s.name [0, 2]).2⟩
  else if s.op = 2 then ⟨2, (findM K L s.mod s.name [3]).1.n, (findM K L s.mod s.name [3]).1.m, (findM K L s.mod s.name [3]).1.at_, (findM K L s.mod s.name [3]).2⟩
  else if s.op = 3 then ⟨3, 0, (routM K L s.mod s.name s.args.length).1.m, (routM K L s.mod s.name s.args.length).1.at_, (routM K L s.mod s.name s.args.length).2⟩
  else ⟨s.op, 0, 0, 0, 0⟩
def bindE {α β : Type} : Except Int α → (α → Except Int β) → Except Int β
  | .error e, _ => .error e
  | .ok a, f => f a
def alE (a : Al) : Except Int Al := if a.err = 0 then .ok a else .error a.err
mutual
def rsE (K : Kn) (L : Lc) : Ex → Except Int Nd
  | .mk op n mod name args => bindE (alE (ndM K L (.mk op n mod name args))) fun h => bindE (rsEs K L args) fun l => .ok (.mk h.op h.n h.m h.at_ l)
def rsEs (K : Kn) (L : Lc) : List Ex → Except Int (List Nd)
  | [] => .ok []
  | x :: r => bindE (rsE K L x) fun y => bindE (rsEs K L r) fun l => .ok (y :: l)
end
mutual
def rsS (K : Kn) (L : Lc) : St → Except Int Ac
  | .mk op mod name args body other => bindE (alE (acM K L (.mk op mod name args body other))) fun h => bindE (rsEs K L args) fun l => bindE (rsSs K L body) fun b => bindE (rsSs K L other) fun o => .ok (.mk h.op h.n h.m h.at_ l b o)
def rsSs (K : Kn) (L : Lc) : List St → Except Int (List Ac)
  | [] => .ok []
  | x :: r => bindE (rsS K L x) fun y => bindE (rsSs K L r) fun l => .ok (y :: l)
end
theorem bindE_ok {α : Type} (x : Except Int α) : bindE x .ok = x := by cases x <;> rfl
/- A list whose head part is resolved. -/
theorem rsEs_app (K : Kn) (L : Lc) : ∀ (a b : List Ex) (acc : List Nd), rsEs K L a = .ok acc → rsEs K L (a ++ b) = bindE (rsEs K L b) fun l => .ok (acc ++ l)
  | [], b, acc, h => by
    rw [rsEs] at h
    obtain rfl := Except.ok.inj h
    show rsEs K L b = _
    exact (bindE_ok _).symm
  | x :: a, b, acc, h => by
    rw [rsEs] at h
    show rsEs K L (x :: (a ++ b)) = _
    rw [rsEs]
    cases hx : rsE K L x with
    | error e => rw [hx] at h; cases h
    | ok y =>
      rw [hx] at h
      simp only [bindE] at h ⊢
      cases ha : rsEs K L a with
      | error e => rw [ha] at h; cases h
      | ok l =>
        rw [ha] at h
        obtain rfl := Except.ok.inj h
        rw [rsEs_app K L a b l ha]
        cases rsEs K L b <;> rfl
theorem rsSs_app (K : Kn) (L : Lc) : ∀ (a b : List St) (acc : List Ac), rsSs K L a = .ok acc → rsSs K L (a ++ b) = bindE (rsSs K L b) fun l => .ok (acc ++ l)
  | [], b, acc, h => by
    rw [rsSs] at h
    obtain rfl := Except.ok.inj h
    show rsSs K L b = _
    exact (bindE_ok _).symm
  | x :: a, b, acc, h => by
    rw [rsSs] at h
    show rsSs K L (x :: (a ++ b)) = _
    rw [rsSs]
    cases hx : rsS K L x with
    | error e => rw [hx] at h; cases h
    | ok y =>
      rw [hx] at h
      simp only [bindE] at h ⊢
      cases ha : rsSs K L a with
      | error e => rw [ha] at h; cases h
      | ok l =>
        rw [ha] at h
        obtain rfl := Except.ok.inj h
        rw [rsSs_app K L a b l ha]
        cases rsSs K L b <;> rfl
theorem split_at {α : Type} (l : List α) (j : Nat) (h : j < l.length) : l = l.take j ++ l[j] :: l.drop (j + 1) := by
  rw [List.getElem_cons_drop, List.take_append_drop]
theorem rsEs_err {K : Kn} {L : Lc} {l : List Ex} {j : Nat} {acc : List Nd} {e : Int} (h : j < l.length) (ha : rsEs K L (l.take j) = .ok acc) (he : rsE K L l[j] = .error e) : rsEs K L l = .error e := by
  rw [split_at l j h, rsEs_app K L _ _ acc ha, rsEs, he]; rfl
theorem rsEs_snoc {K : Kn} {L : Lc} {l : List Ex} {j : Nat} {acc : List Nd} {y : Nd} (h : j < l.length) (ha : rsEs K L (l.take j) = .ok acc) (he : rsE K L l[j] = .ok y) : rsEs K L (l.take (j + 1)) = .ok (acc ++ [y]) := by
  rw [List.take_succ_eq_append_getElem h, rsEs_app K L _ _ acc ha, rsEs, he]; rfl
theorem rsSs_err {K : Kn} {L : Lc} {l : List St} {j : Nat} {acc : List Ac} {e : Int} (h : j < l.length) (ha : rsSs K L (l.take j) = .ok acc) (he : rsS K L l[j] = .error e) : rsSs K L l = .error e := by
  rw [split_at l j h, rsSs_app K L _ _ acc ha, rsSs, he]; rfl
theorem rsSs_snoc {K : Kn} {L : Lc} {l : List St} {j : Nat} {acc : List Ac} {y : Ac} (h : j < l.length) (ha : rsSs K L (l.take j) = .ok acc) (he : rsS K L l[j] = .ok y) : rsSs K L (l.take (j + 1)) = .ok (acc ++ [y]) := by
  rw [List.take_succ_eq_append_getElem h, rsSs_app K L _ _ acc ha, rsSs, he]; rfl
theorem rsE_eq (K : Kn) (L : Lc) (x : Ex) : rsE K L x = bindE (alE (ndM K L x)) fun h => bindE (rsEs K L x.args) fun l => .ok (.mk h.op h.n h.m h.at_ l) := by
  obtain ⟨op, n, mod, name, args⟩ := x; rw [rsE]; rfl
theorem rsS_eq (K : Kn) (L : Lc) (x : St) : rsS K L x = bindE (alE (acM K L x)) fun h => bindE (rsEs K L x.args) fun l => bindE (rsSs K L x.body) fun b => bindE (rsSs K L x.other) fun o => .ok (.mk h.op h.n h.m h.at_ l b o) := by
  obtain ⟨op, mod, name, args, body, other⟩ := x; rw [rsS]; rfl
end Go.Proofs.YtndkhgakfodldaaGreatDoor

namespace Go.Proofs.YtndkhgakfodldaaGreatDoor
open Go.RowKit

theorem keptB_eq (s : ByteArray) : keptB s = ((s.toList == [109, 111, 100, 117, 108, 101]) || ((s.toList == [117, 115, 101]) || ((s.toList == [112, 117, 98]) || ((s.toList == [99, 111, 110, 115, 116]) || ((s.toList == [118, 97, 114]) || ((s.toList == [97, 114, 114, 97, 121]) || ((s.toList == [112, 114, 111, 99]) || ((s.toList == [108, 111, 99, 97, 108]) || ((s.toList == [109, 97, 105, 110]) ||
  ((s.toList == [105, 102]) || ((s.toList == [101, 108, 115, 101]) || ((s.toList == [119, 104, 105, 108, 101]) || ((s.toList == [114, 101, 116, 117, 114, 110]) || ((s.toList == [111, 117, 116]) || ((s.toList == [105, 110]) || false))))))))))))))) := by
  unfold keptB kept
  rw [Lib.toList_data]
  simp only [List.contains_cons, List.contains_nil]
set_option maxRecDepth 100000 in
set_option maxHeartbeats 1600000 in
theorem isKept_any (s : ByteArray) (w : World) :
    Calls Tryz.prog 237 #[.string s] w fun e w' => e = .returned (.bool (keptB s)) ∧ w' = w := by
  go_enter Tryz.func237, Tryz.ntmps237
  go_wp2_with fail
  all_goals go_ret
  all_goals refine ⟨ret_bool ?_, rfl⟩
  all_goals rw [keptB_eq]
  all_goals simp only [*, Bool.true_or, Bool.false_or, Bool.or_true]
  all_goals simp_all only [Bool.false_eq_true]
theorem heap_new (w : World) (o : Obj) : (w.alloc o).heap[w.heap.size]? = some o := (MapKept.heap_alloc w o).1
theorem checkN_one (t : Tk) (hk : kindB t = true) : (checkN [t] == 0) = t.okB := by
  unfold checkN
  simp only [List.all_cons, List.all_nil, hk, Bool.and_true, if_true, List.length_cons, List.length_nil]
  cases t.okB <;> rfl
theorem tok_new (t : Tk) (w : World) (hs : t.text.size ≤ maxLen) : ToksAt (w.alloc (.cells #[.int .i64 t.kind, .int .i64 t.n, .string t.text] 184)) (some ⟨w.heap.size, 0, none⟩) [t] := by
  have h : ∀ j u, #[Value.int .i64 t.kind, .int .i64 t.n, .string t.text][j]? = some u → (w.alloc (.cells #[.int .i64 t.kind, .int .i64 t.n, .string t.text] 184)).cell? ⟨w.heap.size, j, none⟩ = some u := fun j u hj => by
    rw [Lib.cell_of_heap (heap_new w _)]; exact hj
  refine Or.inr ⟨_, 0, rfl, by simp, ?_, ?_, ?_, ?_⟩
  · intro i hi
    obtain rfl : i = 0 := by simpa using hi
    exact h 0 _ rfl
  · intro i hi
    obtain rfl : i = 0 := by simpa using hi
    exact h 1 _ rfl
  · intro i hi
    obtain rfl : i = 0 := by simpa using hi
    exact h 2 _ rfl
  · intro i hi
    obtain rfl : i = 0 := by simpa using hi
    exact hs
set_option maxRecDepth 100000 in
set_option maxHeartbeats 400000 in
theorem isTok_any (t : Tk) (w : World) (hs : t.text.size ≤ maxLen) (hk : kindB t = true) :
    Calls Tryz.prog 238 #[t.val] w fun e w' => e = .returned (.bool t.okB) ∧ Below w.heap.size w w' := by
  have HK : Hid ((checkN [t] == 0) = t.okB) := checkN_one t hk
  have HC : Hid (∀ (w1 : World) (n : Nat), n = w1.heap.size → Calls Tryz.prog 116 #[.slice (some ⟨n, 0, none⟩) 1 1] (w1.alloc (.cells #[.int .i64 t.kind, .int .i64 t.n, .string t.text] 184)) fun e w' => e = .returned (.int .i64 (checkN [t])) ∧ Below w1.heap.size w1 w') :=
    fun w1 n hn => by
      subst hn
      refine (Check_any _ 1 [t] _ (tok_new t w1 hs) (by simp)).mono ?_
      rintro e w' ⟨rfl, hb⟩
      exact ⟨rfl, ((Below.refl _ _).alloc (Nat.le_refl _) _).trans (hb.mono (by simp))⟩
  obtain ⟨K, N, S⟩ := t
  simp only [Tk.val] at *
  go_enter Tryz.func238, Tryz.ntmps238
  go_wp2_with (go_at_call 116; refine (HC.out _ _ (by simp)).mono ?_; rintro e w' ⟨rfl, hb⟩)
  go_ret
  exact ⟨ret_bool HK.out, ((Below.refl _ _).alloc (Nat.le_refl _) _).trans (hb.mono (by simp))⟩
theorem okB_name (s : ByteArray) : Tk.okB ⟨1, 0, s⟩ = Lx.nameB s.data.toList := by simp [Tk.okB]
theorem okB_num (n : Int) : Tk.okB ⟨2, n, ⟨#[]⟩⟩ = numOkB n := by simp [Tk.okB, numOkB, Lib.toList_data]
set_option maxRecDepth 100000 in
set_option maxHeartbeats 400000 in
theorem tName_any (s : ByteArray) (w : World) (hs : s.size ≤ maxLen) :
    Calls Tryz.prog 186 #[.string s] w fun e w' => e = .returned (.bool (nameOk s)) ∧ Below w.heap.size w w' := by
  have HC : Hid (∀ w1 : World, Calls Tryz.prog 238 #[.agg #[.int .i64 1, .int .i64 0, .string s]] w1 fun e w' => e = .returned (.bool (Lx.nameB s.data.toList)) ∧ Below w1.heap.size w1 w') := fun w1 => by
    rw [← okB_name]; exact isTok_any ⟨1, 0, s⟩ w1 hs rfl
  by_cases hk : keptB s = true
  · have HN : Hid (nameOk s = false) := by show _ = _; simp [nameOk, hk]
    go_enter Tryz.func186, Tryz.ntmps186
    go_wp2_with (go_at_call 237; refine (isKept_any s _).mono ?_; rintro e w' ⟨rfl, rfl⟩)
    go_ret
    exact ⟨ret_bool (by rw [HN.out]), Below.refl _ _⟩
  · have hk' : keptB s = false := by simpa using hk
    clear hk
    have HN : Hid (nameOk s = Lx.nameB s.data.toList) := by show _ = _; simp [nameOk, hk']
    go_enter Tryz.func186, Tryz.ntmps186
    go_wp2_with (first | (go_at_call 237; refine (isKept_any s _).mono ?_; rintro e w' ⟨rfl, rfl⟩) | (go_at_call 238; refine (HC.out _).mono ?_; rintro e w' ⟨rfl, hb⟩))
    go_ret
    exact ⟨ret_bool (by rw [HN.out]), hb⟩
set_option maxRecDepth 100000 in
set_option maxHeartbeats 400000 in
theorem tNumber_any (n : Int) (w : World) :
    Calls Tryz.prog 241 #[.int .i64 n] w fun e w' => e = .returned (.bool (numOkB n)) ∧ Below w.heap.size w w' := by
  have HC : Hid (∀ w1 : World, Calls Tryz.prog 238 #[.agg #[.int .i64 2, .int .i64 n, .string ⟨#[]⟩]] w1 fun e w' => e = .returned (.bool (numOkB n)) ∧ Below w1.heap.size w1 w') := fun w1 => by
    rw [← okB_num]; exact isTok_any ⟨2, n, ⟨#[]⟩⟩ w1 (Nat.zero_le _) rfl
  go_enter Tryz.func241, Tryz.ntmps241
  go_wp2_with (go_at_call 238; refine (HC.out _).mono ?_; rintro e w' ⟨rfl, hb⟩)
  go_ret
  exact ⟨rfl, hb⟩
theorem empty_size (s : ByteArray) : s.toList.isEmpty = decide (s.size = 0) := by
  rw [Lib.toList_data]
  have h := Lx.len_toList s
  cases hl : s.data.toList with
  | nil => rw [hl] at h; have h' : s.size = 0 := h.symm; simp [h']
  | cons c r => rw [hl] at h; have h' : s.size ≠ 0 := by simp at h; omega
                simp [h']
set_option maxRecDepth 100000 in
set_option maxHeartbeats 800000 in
theorem refHolds_any (h : Sh) (mod name : ByteArray) (w : World) (h1 : mod.size ≤ maxLen) (h2 : name.size ≤ maxLen) :
    Calls Tryz.prog 242 #[h.val, .string mod, .string name] w fun e w' => e = .returned (.bool (refOk h mod name)) ∧ Below w.heap.size w w' := by
  obtain ⟨a, b, c, d, e, f⟩ := h
  simp only [Sh.val]
  cases a with
  | false =>
    have HR : Hid (refOk ⟨false, b, c, d, e, f⟩ mod name = (mod.toList.isEmpty && name.toList.isEmpty)) := by show _ = _; simp [refOk, empty_size]
    cases hm : mod.toList.isEmpty with
    | false =>
      go_enter Tryz.func242, Tryz.ntmps242
      go_wp2_with fail
      go_ret
      exact ⟨ret_bool (by rw [HR.out, hm]; rfl), (Below.refl _ _).alloc (Nat.le_refl _) _⟩
    | true =>
      go_enter Tryz.func242, Tryz.ntmps242
      go_wp2_with fail
      go_ret
      exact ⟨ret_bool (by rw [HR.out, hm]; rfl), (Below.refl _ _).alloc (Nat.le_refl _) _⟩
  | true =>
    have HR : Hid (refOk ⟨true, b, c, d, e, f⟩ mod name = (nameOk name && (mod.toList.isEmpty || nameOk mod))) := by show _ = _; simp [refOk, empty_size]
    cases hn : nameOk name with
    | false =>
      go_enter Tryz.func242, Tryz.ntmps242
      go_wp2_with (go_at_call 186; refine (tName_any name _ h2).mono ?_; rw [hn]; rintro e w' ⟨rfl, hb⟩)
      go_ret
      exact ⟨ret_bool (by rw [HR.out, hn]; rfl), ((Below.refl _ _).alloc (Nat.le_refl _) _).trans (hb.mono (by simp))⟩
    | true =>
      cases hm : mod.toList.isEmpty with
      | true =>
        go_enter Tryz.func242, Tryz.ntmps242
        go_wp2_with (go_at_call 186; refine (tName_any name _ h2).mono ?_; rw [hn]; rintro e w' ⟨rfl, hb⟩)
        go_ret
        exact ⟨ret_bool (by rw [HR.out, hn, hm]; rfl), ((Below.refl _ _).alloc (Nat.le_refl _) _).trans (hb.mono (by simp))⟩
      | false =>
        go_enter Tryz.func242, Tryz.ntmps242
        go_wp2_with fail
        refine (tName_any name _ h2).mono ?_
        rw [hn]
        rintro e w1 ⟨rfl, hb⟩
        go_wp2_with fail
        refine (tName_any mod _ h1).mono ?_
        rintro e w2 ⟨rfl, hb2⟩
        go_wp2_with fail
        go_ret
        exact ⟨ret_bool (by rw [HR.out, hn, hm]; simp), (((Below.refl _ _).alloc (Nat.le_refl _) _).trans (hb.mono (by simp))).trans (hb2.mono (Nat.le_trans (by simp) hb.size))⟩
set_option maxRecDepth 100000 in
set_option maxHeartbeats 400000 in
theorem numberHolds_any (h : Sh) (n : Int) (w : World) :
    Calls Tryz.prog 280 #[h.val, .int .i64 n] w fun e w' => e = .returned (.bool (nOk h n)) ∧ Below w.heap.size w w' := by
  obtain ⟨a, b, c, d, e, f⟩ := h
  simp only [Sh.val]
  cases b with
  | false =>
    have HR : Hid (nOk ⟨a, false, c, d, e, f⟩ n = (n == 0)) := by show _ = _; rw [Bool.eq_iff_iff]; simp [nOk]
    go_enter Tryz.func280, Tryz.ntmps280
    go_wp2_with fail
    go_ret
    exact ⟨ret_bool HR.out.symm, (Below.refl _ _).alloc (Nat.le_refl _) _⟩
  | true =>
    have HR : Hid (nOk ⟨a, true, c, d, e, f⟩ n = numOkB n) := by show _ = _; simp [nOk]
    go_enter Tryz.func280, Tryz.ntmps280
    go_wp2_with (go_at_call 241; refine (tNumber_any n _).mono ?_; rintro e w' ⟨rfl, hb⟩)
    go_ret
    exact ⟨ret_bool HR.out.symm, ((Below.refl _ _).alloc (Nat.le_refl _) _).trans (hb.mono (by simp))⟩
set_option maxRecDepth 100000 in
set_option maxHeartbeats 400000 in
theorem countHolds_any (h : Sh) (aa : Option Addr) (k cap : Nat) (w : World) :
    Calls Tryz.prog 243 #[h.val, .slice aa k cap] w fun e w' => e = .returned (.bool (countOk h k)) ∧ Below w.heap.size w w' := by
  obtain ⟨a, b, c, d, e, f⟩ := h
  simp only [Sh.val]
  have HR : Hid (countOk ⟨a, b, c, d, e, f⟩ k = (decide (c ≤ (k : Int)) && decide ((k : Int) ≤ d))) := rfl
  by_cases h1 : c ≤ (k : Int)
  · go_enter Tryz.func243, Tryz.ntmps243
    go_wp2_with fail
    all_goals go_ret
    all_goals exact ⟨ret_bool (by rw [HR.out]; simp [*] <;> omega), (Below.refl _ _).alloc (Nat.le_refl _) _⟩
  · go_enter Tryz.func243, Tryz.ntmps243
    go_wp2_with fail
    all_goals go_ret
    all_goals exact ⟨ret_bool (by rw [HR.out]; simp [*] <;> omega), (Below.refl _ _).alloc (Nat.le_refl _) _⟩
set_option maxRecDepth 100000 in
set_option maxHeartbeats 800000 in
theorem sizeHolds_any (x : De) (w : World) :
    Calls Tryz.prog 188 #[.agg #[.int .i64 x.kind, .string x.name, .bool x.pub, .int .i64 x.n]] w fun e w' => e = .returned (.bool (sizeOk x)) ∧ Below w.heap.size w w' := by
  obtain ⟨K, S, B, N⟩ := x
  by_cases k1 : K = 1
  · have HR : Hid (sizeOk ⟨K, S, B, N⟩ = numOkB N) := if_pos k1
    subst k1
    go_enter Tryz.func188, Tryz.ntmps188
    go_wp2_with (go_at_call 241; refine (tNumber_any N _).mono ?_; rintro e w' ⟨rfl, hb⟩)
    go_ret
    exact ⟨ret_bool HR.out.symm, ((Below.refl _ _).alloc (Nat.le_refl _) _).trans (hb.mono (by simp))⟩
  · have b1 : (K == 1) = false := beq_eq_false_iff_ne.2 k1
    by_cases k3 : K = 3
    · have HR : Hid (sizeOk ⟨K, S, B, N⟩ = (decide (1 ≤ N) && decide (N ≤ 32))) := (if_neg k1).trans (if_pos k3)
      subst k3
      clear k1 b1
      by_cases n1 : 1 ≤ N
      · go_enter Tryz.func188, Tryz.ntmps188
        go_wp2_with fail
        all_goals go_ret
        all_goals exact ⟨ret_bool (by rw [HR.out]; simp [*] <;> omega), (Below.refl _ _).alloc (Nat.le_refl _) _⟩
      · go_enter Tryz.func188, Tryz.ntmps188
        go_wp2_with fail
        all_goals go_ret
        all_goals exact ⟨ret_bool (by rw [HR.out]; simp [*] <;> omega), (Below.refl _ _).alloc (Nat.le_refl _) _⟩
    · have b3 : (K == 3) = false := beq_eq_false_iff_ne.2 k3
      have HR : Hid (sizeOk ⟨K, S, B, N⟩ = (N == 0)) := by
        show _ = _
        rw [Bool.eq_iff_iff]; simp [sizeOk, k1, k3]
      clear k1 k3
      go_enter Tryz.func188, Tryz.ntmps188
      go_wp2_with fail
      all_goals go_ret
      all_goals exact ⟨ret_bool (by rw [HR.out]), (Below.refl _ _).alloc (Nat.le_refl _) _⟩
end Go.Proofs.YtndkhgakfodldaaGreatDoor

namespace Go.Proofs.YtndkhgakfodldaaGreatDoor
open Go.RowKit Go.Maps

def heldE (v : Value) : Option (DataW Value × List MemPlace) := some (.held v, [])
theorem keyed3 : Keyed Tryz.prog 3 := int_keyed Tryz.underlying3
theorem zeroSh (w : World) : (zeroValue 270).run Tryz.prog w = .ok sh0.val w := by kernel_rfl

def ShFor (D : DataW Value) (f : Int → Option Sh) : Prop := ∀ a : Int, has D (.int .i64 a) = (f a).isSome ∧ D.atKey (.int .i64 a) (.held sh0.val) = .held ((f a).getD sh0).val
def upd (f : Int → Option Sh) (k : Int) (s : Sh) : Int → Option Sh := fun a => if a = k then some s else f a
theorem ShFor.put {D : DataW Value} {f : Int → Option Sh} (h : ShFor D f) (hD : IsMap D) (k : Int) (s : Sh) : ShFor (D.put (.int .i64 k) (.held s.val)) (upd f k s) := by
  intro a
  by_cases e : a = k
  · subst e
    simp only [upd, if_true]
    exact ⟨has_put_same (k := .int .i64 a) hD trivial _, atKey_put_same (k := .int .i64 a) hD trivial _ _⟩
  · simp only [upd, if_neg e]
    have hne : Lit.int .i64 a ≠ .int .i64 k := fun h => e (by injection h)
    rw [has_put_other hne, atKey_put_other hne]
    exact h a
/- A table lies in a block, with at most n entries. -/
def ShAt (w : World) (b n : Nat) (f : Int → Option Sh) : Prop := ∃ D, w.ownsMap Tryz.prog 3 heldE b n D ∧ ShFor D f
theorem ShAt.later {w w' : World} {b n : Nat} {f : Int → Option Sh} (h : ShAt w b n f) (hb : Below w.heap.size w w') : ShAt w' b n f := by
  obtain ⟨D, h1, h2⟩ := h
  have hlt := h1.lt
  obtain ⟨es, clock, hb', r⟩ := h1
  exact ⟨D, ⟨es, clock, (hb.block b hlt).trans hb', r⟩, h2⟩
theorem ShAt.lt {w : World} {b n : Nat} {f : Int → Option Sh} (h : ShAt w b n f) : b < w.heap.size := by obtain ⟨D, h1, _⟩ := h; exact h1.lt
theorem ShAt.made (w : World) : ShAt (w.alloc (.map #[] 0)) w.heap.size 0 (fun _ => none) :=
  ⟨.map [], World.ownsMap_made w _ _ _, fun _ => ⟨rfl, rfl⟩⟩
theorem ShAt.look {w : World} {b n : Nat} {f : Int → Option Sh} (h : ShAt w b n f) {k : Int} (hk : (Lit.int .i64 k).wf = true) :
    (Instr.lookup 232 (.map (some b)) (.int .i64 k) false).run Tryz.prog w = .ok ((f k).getD sh0).val w := by
  obtain ⟨D, h1, h2⟩ := h
  obtain ⟨v, ps, hrun, hv⟩ := h1.lookup keyed3 Tryz.underlying232 (zeroSh w) (zd := .held sh0.val) (zp := []) rfl (keyOf_int_mk Tryz.underlying3 hk)
  rw [(h2 k).2] at hv
  simp only [heldE, Option.some.injEq, Prod.mk.injEq, DataW.held.injEq] at hv
  rw [hrun, hv.1]
theorem ShAt.look_ok {w : World} {b n : Nat} {f : Int → Option Sh} (h : ShAt w b n f) {k : Int} (hk : (Lit.int .i64 k).wf = true) :
    (Instr.lookup 232 (.map (some b)) (.int .i64 k) true).run Tryz.prog w = .ok (.tuple #[((f k).getD sh0).val, .bool (f k).isSome]) w := by
  obtain ⟨D, h1, h2⟩ := h
  obtain ⟨v, ps, hrun, hv⟩ := h1.look_ok keyed3 Tryz.underlying232 (zeroSh w) (zd := .held sh0.val) (zp := []) rfl (keyOf_int_mk Tryz.underlying3 hk)
  rw [(h2 k).2] at hv
  simp only [heldE, Option.some.injEq, Prod.mk.injEq, DataW.held.injEq] at hv
  rw [hrun, hv.1, (h2 k).1]
theorem ShAt.put {w : World} {b n : Nat} {f : Int → Option Sh} (h : ShAt w b n f) (hn : n < maxLen) {k : Int} (hk : (Lit.int .i64 k).wf = true) (s : Sh) :
    ∃ w', (Instr.mapUpdate 232 (.map (some b)) (.int .i64 k) s.val).run Tryz.prog w = .ok () w' ∧ ShAt w' b (n + 1) (upd f k s) ∧ w.grownBy w' (some b) := by
  obtain ⟨D, h1, h2⟩ := h
  obtain ⟨w', r1, r2, r3⟩ := h1.update keyed3 Tryz.underlying232 hn (keyOf_int_mk Tryz.underlying3 hk) (val := s.val) (d := .held s.val) (ps := []) rfl
  exact ⟨w', r1, ⟨_, r2, h2.put h1.isMap k s⟩, r3⟩
theorem insert_sh {ops : Array Oper} {rest : List Oper} {o : Oper} {a : Act} {w : World} {Q : Exit → Act → World → Prop} (hg : o.guard = none) (m x v : Operand) (hop : o.op = Op.insert 232 m x v) {b n : Nat} {f : Int → Option Sh} (hS : ShAt w b n f)
    (hm : a.eval m = .map (some b)) (k : Int) (hx : a.eval x = .int .i64 k) (x1 x2 : Bool) (x3 x4 : Int) (x5 x6 : Bool) (hv : a.eval v = .agg #[.bool x1, .bool x2, .int .i64 x3, .int .i64 x4, .bool x5, .bool x6]) (hk : (Lit.int .i64 k).wf = true) (hn : n < maxLen)
    (hK : ∀ w', ShAt w' b (n + 1) (upd f k ⟨x1, x2, x3, x4, x5, x6⟩) → w.grownBy w' (some b) → wpList Tryz.prog ops Q rest (a.put o.dst undef) w') : wpList Tryz.prog ops Q (o :: rest) a w := by
  refine wpList_plain hg fun K' hK' => ?_
  obtain ⟨w', hrun, r1, r2⟩ := hS.put hn hk ⟨x1, x2, x3, x4, x5, x6⟩
  simp only [Sh.val] at hrun
  unfold Oper.wp
  simp [execOp, hop, hm, hx, hv, hrun, Result.andThen]
  exact hK' _ _ (hK w' r1 r2)
theorem update_sh {ops : Array Oper} {rest : List Oper} {o : Oper} {a : Act} {w : World} {Q : Exit → Act → World → Prop} (hg : o.guard = none) (m x v : Operand) (hop : o.op = Op.mapUpdate 232 m x v) {b n : Nat} {f : Int → Option Sh} (hS : ShAt w b n f)
    (hm : a.eval m = .map (some b)) (k : Int) (hx : a.eval x = .int .i64 k) (x1 x2 : Bool) (x3 x4 : Int) (x5 x6 : Bool) (hv : a.eval v = .agg #[.bool x1, .bool x2, .int .i64 x3, .int .i64 x4, .bool x5, .bool x6]) (hk : (Lit.int .i64 k).wf = true) (hn : n < maxLen)
    (hK : ∀ w', ShAt w' b (n + 1) (upd f k ⟨x1, x2, x3, x4, x5, x6⟩) → w.grownBy w' (some b) → wpList Tryz.prog ops Q rest (a.put o.dst undef) w') : wpList Tryz.prog ops Q (o :: rest) a w := by
  refine wpList_plain hg fun K' hK' => ?_
  obtain ⟨w', hrun, r1, r2⟩ := hS.put hn hk ⟨x1, x2, x3, x4, x5, x6⟩
  simp only [Sh.val] at hrun
  unfold Oper.wp
  simp [execOp, hop, hm, hx, hv, hrun, Result.andThen]
  exact hK' _ _ (hK w' r1 r2)
def stF : Int → Option Sh := upd (upd (upd (upd (upd (upd (upd (fun _ => none) 1 ⟨true, false, 1, 1, false, false⟩) 2 ⟨true, false, 2, 2, false, false⟩) 3 ⟨true, false, 0, 3, false, false⟩) 4 ⟨false, false, 1, 1, true, true⟩) 5 ⟨false, false, 1, 1, true, false⟩) 6 ⟨false, false, 1, 1, false, false⟩) 7 ⟨false, false, 1, 1, false, false⟩
theorem stF_eq : stF = stSh := by
  funext a
  unfold stF upd stSh
  repeat' split
  all_goals first | rfl | omega
def exF0 : Int → Option Sh := upd (upd (upd (upd (upd (upd (fun _ => none) 1 ⟨false, true, 0, 0, false, false⟩) 2 ⟨false, false, 0, 0, false, false⟩) 3 ⟨true, false, 0, 0, false, false⟩) 4 ⟨true, false, 1, 1, false, false⟩) 5 ⟨true, false, 0, 3, false, false⟩) 6 ⟨false, false, 1, 1, false, false⟩
def exF (k : Nat) : Int → Option Sh := fun a => if 7 ≤ a ∧ a < 7 + (k : Int) then some ⟨false, false, 2, 2, false, false⟩ else exF0 a
theorem exF_zero : exF0 = exF 0 := by
  funext a
  unfold exF
  rw [if_neg (by omega)]
theorem exF_step (k : Nat) : upd (exF k) (7 + (k : Int)) ⟨false, false, 2, 2, false, false⟩ = exF (k + 1) := by
  funext a
  simp only [upd, exF]
  by_cases e : a = 7 + (k : Int)
  · rw [if_pos e, if_pos (by omega)]
  · rw [if_neg e]
    by_cases h : 7 ≤ a ∧ a < 7 + (k : Int)
    · rw [if_pos h, if_pos (by omega)]
    · rw [if_neg h, if_neg (by omega)]
theorem exF_end : exF 9 = exSh := by
  funext a
  unfold exF exF0 upd exSh
  repeat' split
  all_goals first | rfl | omega
set_option maxRecDepth 100000 in
set_option maxHeartbeats 800000 in
theorem stmtShapes_any (w : World) :
    Calls Tryz.prog 151 #[] w fun e w' => ∃ b, e = .returned (.map (some b)) ∧ ShAt w' b 7 stSh ∧ Below w.heap.size w w' := by
  have hmm := @run_makeMap Tryz.prog
  have hS := ShAt.made w
  have hB : Below w.heap.size w (w.alloc (.map #[] 0)) := (Below.refl _ _).alloc (Nat.le_refl _) _
  go_enter Tryz.func151, Tryz.ntmps151
  go_wp2_with (refine insert_sh rfl _ _ _ rfl hS rfl _ rfl _ _ _ _ _ _ rfl (by decide) (by decide) ?_; clear hS; intro w1 hS hG; replace hB := hB.grown hG hB.size (fun j hj => by cases hj; exact Nat.le_refl _); clear hG)
  go_ret
  refine ⟨_, rfl, ?_, hB⟩
  rw [← stF_eq]
  exact hS
set_option maxRecDepth 100000 in
set_option maxHeartbeats 1600000 in
theorem exprShapes_any (w : World) :
    Calls Tryz.prog 150 #[] w fun e w' => ∃ b, e = .returned (.map (some b)) ∧ ShAt w' b 15 exSh ∧ Below w.heap.size w w' := by
  have hmm := @run_makeMap Tryz.prog
  have hS := ShAt.made w
  have hB : Below w.heap.size w (w.alloc (.map #[] 0)) := (Below.refl _ _).alloc (Nat.le_refl _) _
  go_enter Tryz.func150, Tryz.ntmps150
  go_wp2_with (refine insert_sh rfl _ _ _ rfl hS rfl _ rfl _ _ _ _ _ _ rfl (by decide) (by decide) ?_; clear hS; intro w1 hS hG; replace hB := hB.grown hG hB.size (fun j hj => by cases hj; exact Nat.le_refl _); clear hG)
  have hS0 : ShAt w1 w.heap.size 6 (exF 0) := by rw [← exF_zero]; exact hS
  clear hS
  go_loopw [2] (fun i wr => ∃ k : Nat, k ≤ 9 ∧ i = .int .i64 (7 + (k : Int)) ∧ ShAt wr w.heap.size (6 + k) (exF k) ∧ Below w.heap.size w wr) (fun i _ => 16 - (intOf i).toNat)
  case atStart => exact ⟨0, by omega, rfl, hS0, hB⟩
  case round =>
    clear hS0 hB
    obtain ⟨k, hk, rfl, hS, hB⟩ := hrel
    by_cases hlt : k < 9
    · go_wp2_with (refine update_sh rfl _ _ _ rfl hS rfl _ rfl _ _ _ _ _ _ rfl (WalkArith.wf_i64 (by omega)) (by unfold maxLen; omega) ?_; clear hS; intro w2 hS hG; replace hB := hB.grown hG hB.size (fun j hj => by cases hj; exact Nat.le_refl _); clear hG)
      rw [exF_step] at hS
      go_roundw
      case rel => exact ⟨k + 1, by omega, by go_num, hS, hB⟩
      case measure => simp [intOf]; omega
    · obtain rfl : k = 9 := by omega
      go_wp2_with fail
      go_ret
      refine ⟨_, rfl, ?_, hB⟩
      rw [← exF_end]
      exact hS
end Go.Proofs.YtndkhgakfodldaaGreatDoor
