/-
  The small looks of the checker: kept words, names, numbers, what an operation has.
-/
import Derived.Test.YtcekpobmbmnplaaGreatDoorPk
namespace Go.Proofs.YtcekpobmbmnplaaGreatDoor
open Go.RowKit

theorem keptB_eq (s : ByteArray) : keptB s = ((s.toList == [109, 111, 100, 117, 108, 101]) || ((s.toList == [117, 115, 101]) || ((s.toList == [112, 117, 98]) || ((s.toList == [99, 111, 110, 115, 116]) || ((s.toList == [118, 97, 114]) || ((s.toList == [97, 114, 114, 97, 121]) || ((s.toList == [112, 114, 111, 99]) || ((s.toList == [108, 111, 99, 97, 108]) || ((s.toList == [109, 97, 105, 110]) ||
  ((s.toList == [105, 102]) || ((s.toList == [101, 108, 115, 101]) || ((s.toList == [119, 104, 105, 108, 101]) || ((s.toList == [114, 101, 116, 117, 114, 110]) || ((s.toList == [111, 117, 116]) || ((s.toList == [105, 110]) || false))))))))))))))) := by
  unfold keptB kept
  rw [Lib.toList_data]
  simp only [List.contains_cons, List.contains_nil]
set_option maxRecDepth 100000 in
set_option maxHeartbeats 1600000 in
theorem isKept_any (s : ByteArray) (w : World) :
    Calls Tryz.prog 72 #[.string s] w fun e w' => e = .returned (.bool (keptB s)) ∧ w' = w := by
  go_enter Tryz.func72, Tryz.ntmps72
  go_wp2_with fail
  all_goals go_ret
  all_goals refine ⟨ret_bool ?_, rfl⟩
  all_goals rw [keptB_eq]
  all_goals simp only [*, Bool.true_or, Bool.false_or, Bool.or_true]
  all_goals simp_all only [Bool.false_eq_true]
theorem heap_new (w : World) (o : Obj) : (w.alloc o).heap[w.heap.size]? = some o := (MapKept.heap_alloc w o).1
theorem checkN_one (t : Tk) (hk : kindB t = true) : (checkN [t] == 0) = t.okB := by
  unfold checkN
  simp only [List.all_cons, List.all_nil, hk, Bool.and_true, if_true, List.length_cons, List.length_nil]
  cases t.okB <;> rfl
theorem tok_new (t : Tk) (w : World) (hs : t.text.size ≤ maxLen) : ToksAt (w.alloc (.cells #[.int .i64 t.kind, .int .i64 t.n, .string t.text] 68)) (some ⟨w.heap.size, 0, none⟩) [t] := by
  have h : ∀ j u, #[Value.int .i64 t.kind, .int .i64 t.n, .string t.text][j]? = some u → (w.alloc (.cells #[.int .i64 t.kind, .int .i64 t.n, .string t.text] 68)).cell? ⟨w.heap.size, j, none⟩ = some u := fun j u hj => by
    rw [Lib.cell_of_heap (heap_new w _)]; exact hj
  refine Or.inr ⟨_, 0, rfl, by simp, ?_, ?_, ?_, ?_⟩
  · intro i hi
    obtain rfl : i = 0 := by simpa using hi
    exact h 0 _ rfl
  · intro i hi
    obtain rfl : i = 0 := by simpa using hi
    exact h 1 _ rfl
  · intro i hi
    obtain rfl : i = 0 := by simpa using hi
    exact h 2 _ rfl
  · intro i hi
    obtain rfl : i = 0 := by simpa using hi
    exact hs
set_option maxRecDepth 100000 in
set_option maxHeartbeats 400000 in
theorem isTok_any (t : Tk) (w : World) (hs : t.text.size ≤ maxLen) (hk : kindB t = true) :
    Calls Tryz.prog 73 #[t.val] w fun e w' => e = .returned (.bool t.okB) ∧ Below w.heap.size w w' := by
  have HK : Hid ((checkN [t] == 0) = t.okB) := checkN_one t hk
  have HC : Hid (∀ (w1 : World) (n : Nat), n = w1.heap.size → Calls Tryz.prog 31 #[.slice (some ⟨n, 0, none⟩) 1 1] (w1.alloc (.cells #[.int .i64 t.kind, .int .i64 t.n, .string t.text] 68)) fun e w' => e = .returned (.int .i64 (checkN [t])) ∧ Below w1.heap.size w1 w') :=
    fun w1 n hn => by
      subst hn
      refine (Check_any _ 1 [t] _ (tok_new t w1 hs) (by simp)).mono ?_
      rintro e w' ⟨rfl, hb⟩
      exact ⟨rfl, ((Below.refl _ _).alloc (Nat.le_refl _) _).trans (hb.mono (by simp))⟩
  obtain ⟨K, N, S⟩ := t
  simp only [Tk.val] at *
  go_enter Tryz.func73, Tryz.ntmps73
  go_wp2_with (go_at_call 31; refine (HC.out _ _ (by simp)).mono ?_; rintro e w' ⟨rfl, hb⟩)
  go_ret
  exact ⟨ret_bool HK.out, ((Below.refl _ _).alloc (Nat.le_refl _) _).trans (hb.mono (by simp))⟩
theorem okB_name (s : ByteArray) : Tk.okB ⟨1, 0, s⟩ = Lx.nameB s.data.toList := by simp [Tk.okB]
theorem okB_num (n : Int) : Tk.okB ⟨2, n, ⟨#[]⟩⟩ = numOkB n := by simp [Tk.okB, numOkB, Lib.toList_data]
set_option maxRecDepth 100000 in
set_option maxHeartbeats 400000 in
theorem tName_any (s : ByteArray) (w : World) (hs : s.size ≤ maxLen) :
    Calls Tryz.prog 39 #[.string s] w fun e w' => e = .returned (.bool (nameOk s)) ∧ Below w.heap.size w w' := by
  have HC : Hid (∀ w1 : World, Calls Tryz.prog 73 #[.agg #[.int .i64 1, .int .i64 0, .string s]] w1 fun e w' => e = .returned (.bool (Lx.nameB s.data.toList)) ∧ Below w1.heap.size w1 w') := fun w1 => by
    rw [← okB_name]; exact isTok_any ⟨1, 0, s⟩ w1 hs rfl
  by_cases hk : keptB s = true
  · have HN : Hid (nameOk s = false) := by show _ = _; simp [nameOk, hk]
    go_enter Tryz.func39, Tryz.ntmps39
    go_wp2_with (go_at_call 72; refine (isKept_any s _).mono ?_; rintro e w' ⟨rfl, rfl⟩)
    go_ret
    exact ⟨ret_bool (by rw [HN.out]), Below.refl _ _⟩
  · have hk' : keptB s = false := by simpa using hk
    clear hk
    have HN : Hid (nameOk s = Lx.nameB s.data.toList) := by show _ = _; simp [nameOk, hk']
    go_enter Tryz.func39, Tryz.ntmps39
    go_wp2_with (first | (go_at_call 72; refine (isKept_any s _).mono ?_; rintro e w' ⟨rfl, rfl⟩) | (go_at_call 73; refine (HC.out _).mono ?_; rintro e w' ⟨rfl, hb⟩))
    go_ret
    exact ⟨ret_bool (by rw [HN.out]), hb⟩
set_option maxRecDepth 100000 in
set_option maxHeartbeats 400000 in
theorem tNumber_any (n : Int) (w : World) :
    Calls Tryz.prog 76 #[.int .i64 n] w fun e w' => e = .returned (.bool (numOkB n)) ∧ Below w.heap.size w w' := by
  have HC : Hid (∀ w1 : World, Calls Tryz.prog 73 #[.agg #[.int .i64 2, .int .i64 n, .string ⟨#[]⟩]] w1 fun e w' => e = .returned (.bool (numOkB n)) ∧ Below w1.heap.size w1 w') := fun w1 => by
    rw [← okB_num]; exact isTok_any ⟨2, n, ⟨#[]⟩⟩ w1 (Nat.zero_le _) rfl
  go_enter Tryz.func76, Tryz.ntmps76
  go_wp2_with (go_at_call 73; refine (HC.out _).mono ?_; rintro e w' ⟨rfl, hb⟩)
  go_ret
  exact ⟨rfl, hb⟩
theorem empty_size (s : ByteArray) : s.toList.isEmpty = decide (s.size = 0) := by
  rw [Lib.toList_data]
  have h := Lx.len_toList s
  cases hl : s.data.toList with
  | nil => rw [hl] at h; have h' : s.size = 0 := h.symm; simp [h']
  | cons c r => rw [hl] at h; have h' : s.size ≠ 0 := by simp at h; omega
                simp [h']
set_option maxRecDepth 100000 in
set_option maxHeartbeats 800000 in
theorem refHolds_any (h : Sh) (mod name : ByteArray) (w : World) (h1 : mod.size ≤ maxLen) (h2 : name.size ≤ maxLen) :
    Calls Tryz.prog 77 #[h.val, .string mod, .string name] w fun e w' => e = .returned (.bool (refOk h mod name)) ∧ Below w.heap.size w w' := by
  obtain ⟨a, b, c, d, e, f⟩ := h
  simp only [Sh.val]
  cases a with
  | false =>
    have HR : Hid (refOk ⟨false, b, c, d, e, f⟩ mod name = (mod.toList.isEmpty && name.toList.isEmpty)) := by show _ = _; simp [refOk, empty_size]
    cases hm : mod.toList.isEmpty with
    | false =>
      go_enter Tryz.func77, Tryz.ntmps77
      go_wp2_with fail
      go_ret
      exact ⟨ret_bool (by rw [HR.out, hm]; rfl), (Below.refl _ _).alloc (Nat.le_refl _) _⟩
    | true =>
      go_enter Tryz.func77, Tryz.ntmps77
      go_wp2_with fail
      go_ret
      exact ⟨ret_bool (by rw [HR.out, hm]; rfl), (Below.refl _ _).alloc (Nat.le_refl _) _⟩
  | true =>
    have HR : Hid (refOk ⟨true, b, c, d, e, f⟩ mod name = (nameOk name && (mod.toList.isEmpty || nameOk mod))) := by show _ = _; simp [refOk, empty_size]
    cases hn : nameOk name with
    | false =>
      go_enter Tryz.func77, Tryz.ntmps77
      go_wp2_with (go_at_call 39; refine (tName_any name _ h2).mono ?_; rw [hn]; rintro e w' ⟨rfl, hb⟩)
      go_ret
      exact ⟨ret_bool (by rw [HR.out, hn]; rfl), ((Below.refl _ _).alloc (Nat.le_refl _) _).trans (hb.mono (by simp))⟩
    | true =>
      cases hm : mod.toList.isEmpty with
      | true =>
        go_enter Tryz.func77, Tryz.ntmps77
        go_wp2_with (go_at_call 39; refine (tName_any name _ h2).mono ?_; rw [hn]; rintro e w' ⟨rfl, hb⟩)
        go_ret
        exact ⟨ret_bool (by rw [HR.out, hn, hm]; rfl), ((Below.refl _ _).alloc (Nat.le_refl _) _).trans (hb.mono (by simp))⟩
      | false =>
        go_enter Tryz.func77, Tryz.ntmps77
        go_wp2_with fail
        refine (tName_any name _ h2).mono ?_
        rw [hn]
        rintro e w1 ⟨rfl, hb⟩
        go_wp2_with fail
        refine (tName_any mod _ h1).mono ?_
        rintro e w2 ⟨rfl, hb2⟩
        go_wp2_with fail
        go_ret
        exact ⟨ret_bool (by rw [HR.out, hn, hm]; simp), (((Below.refl _ _).alloc (Nat.le_refl _) _).trans (hb.mono (by simp))).trans (hb2.mono (Nat.le_trans (by simp) hb.size))⟩
set_option maxRecDepth 100000 in
set_option maxHeartbeats 400000 in
theorem numberHolds_any (h : Sh) (n : Int) (w : World) :
    Calls Tryz.prog 111 #[h.val, .int .i64 n] w fun e w' => e = .returned (.bool (nOk h n)) ∧ Below w.heap.size w w' := by
  obtain ⟨a, b, c, d, e, f⟩ := h
  simp only [Sh.val]
  cases b with
  | false =>
    have HR : Hid (nOk ⟨a, false, c, d, e, f⟩ n = (n == 0)) := by show _ = _; rw [Bool.eq_iff_iff]; simp [nOk]
    go_enter Tryz.func111, Tryz.ntmps111
    go_wp2_with fail
    go_ret
    exact ⟨ret_bool HR.out.symm, (Below.refl _ _).alloc (Nat.le_refl _) _⟩
  | true =>
    have HR : Hid (nOk ⟨a, true, c, d, e, f⟩ n = numOkB n) := by show _ = _; simp [nOk]
    go_enter Tryz.func111, Tryz.ntmps111
    go_wp2_with (go_at_call 76; refine (tNumber_any n _).mono ?_; rintro e w' ⟨rfl, hb⟩)
    go_ret
    exact ⟨ret_bool HR.out.symm, ((Below.refl _ _).alloc (Nat.le_refl _) _).trans (hb.mono (by simp))⟩
set_option maxRecDepth 100000 in
set_option maxHeartbeats 400000 in
theorem countHolds_any (h : Sh) (aa : Option Addr) (k cap : Nat) (w : World) :
    Calls Tryz.prog 78 #[h.val, .slice aa k cap] w fun e w' => e = .returned (.bool (countOk h k)) ∧ Below w.heap.size w w' := by
  obtain ⟨a, b, c, d, e, f⟩ := h
  simp only [Sh.val]
  have HR : Hid (countOk ⟨a, b, c, d, e, f⟩ k = (decide (c ≤ (k : Int)) && decide ((k : Int) ≤ d))) := rfl
  by_cases h1 : c ≤ (k : Int)
  · go_enter Tryz.func78, Tryz.ntmps78
    go_wp2_with fail
    all_goals go_ret
    all_goals exact ⟨ret_bool (by rw [HR.out]; simp [*] <;> omega), (Below.refl _ _).alloc (Nat.le_refl _) _⟩
  · go_enter Tryz.func78, Tryz.ntmps78
    go_wp2_with fail
    all_goals go_ret
    all_goals exact ⟨ret_bool (by rw [HR.out]; simp [*] <;> omega), (Below.refl _ _).alloc (Nat.le_refl _) _⟩
set_option maxRecDepth 100000 in
set_option maxHeartbeats 800000 in
theorem sizeHolds_any (x : De) (w : World) :
    Calls Tryz.prog 41 #[.agg #[.int .i64 x.kind, .string x.name, .bool x.pub, .int .i64 x.n]] w fun e w' => e = .returned (.bool (sizeOk x)) ∧ Below w.heap.size w w' := by
  obtain ⟨K, S, B, N⟩ := x
  by_cases k1 : K = 1
  · have HR : Hid (sizeOk ⟨K, S, B, N⟩ = numOkB N) := if_pos k1
    subst k1
    go_enter Tryz.func41, Tryz.ntmps41
    go_wp2_with (go_at_call 76; refine (tNumber_any N _).mono ?_; rintro e w' ⟨rfl, hb⟩)
    go_ret
    exact ⟨ret_bool HR.out.symm, ((Below.refl _ _).alloc (Nat.le_refl _) _).trans (hb.mono (by simp))⟩
  · have b1 : (K == 1) = false := beq_eq_false_iff_ne.2 k1
    by_cases k3 : K = 3
    · have HR : Hid (sizeOk ⟨K, S, B, N⟩ = (decide (1 ≤ N) && decide (N ≤ 32))) := (if_neg k1).trans (if_pos k3)
      subst k3
      clear k1 b1
      by_cases n1 : 1 ≤ N
      · go_enter Tryz.func41, Tryz.ntmps41
        go_wp2_with fail
        all_goals go_ret
        all_goals exact ⟨ret_bool (by rw [HR.out]; simp [*] <;> omega), (Below.refl _ _).alloc (Nat.le_refl _) _⟩
      · go_enter Tryz.func41, Tryz.ntmps41
        go_wp2_with fail
        all_goals go_ret
        all_goals exact ⟨ret_bool (by rw [HR.out]; simp [*] <;> omega), (Below.refl _ _).alloc (Nat.le_refl _) _⟩
    · have b3 : (K == 3) = false := beq_eq_false_iff_ne.2 k3
      have HR : Hid (sizeOk ⟨K, S, B, N⟩ = (N == 0)) := by
        show _ = _
        rw [Bool.eq_iff_iff]; simp [sizeOk, k1, k3]
      clear k1 k3
      go_enter Tryz.func41, Tryz.ntmps41
      go_wp2_with fail
      all_goals go_ret
      all_goals exact ⟨ret_bool (by rw [HR.out]), (Below.refl _ _).alloc (Nat.le_refl _) _⟩
end Go.Proofs.YtcekpobmbmnplaaGreatDoor
