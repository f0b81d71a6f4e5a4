/-
  The program's Marks; operations that follow.
-/
import Derived.Test.YtpahhhhfhnpmjaaQc
namespace Go.Proofs.Ytpahhhhfhnpmjaa
open Go.RowKit Go.Shelf
set_option maxRecDepth 100000

theorem check_zero {code : List Mc.Ins} {d : Int} (h : checkI code d = 0) : 0 < code.length ∧ code.length ≤ 2048 ∧ code.all opB = true ∧ 0 ≤ d ∧ d ≤ 512 := by
  unfold checkI at h
  split at h
  · cases h
  · split at h
    · split at h
      · cases h
      · exact ⟨by omega, by omega, by assumption, by omega, by omega⟩
    · cases h

set_option maxHeartbeats 800000 in
theorem Marks_ok (a : Option Addr) (cap : Nat) (code : List Mc.Ins) (d : Int) (w : World) (hT : ImgAt w a code) (h : checkI code d = 0) :
    Calls Try.prog 5 #[.agg #[.slice a code.length cap, .int .i64 d]] w fun e w' => ∃ g, e = .returned (.tuple #[.slice (some ⟨g, 0, none⟩) code.length code.length, .int .i64 0]) ∧ w.heap.size ≤ g ∧ BRow w' g (Mc.marks code) ∧ Below w.heap.size w w' := by
  obtain ⟨h0, h1, -, -, -⟩ := check_zero h
  have HC : Hid (∀ W, ImgAt W a code → Calls Try.prog 14 #[.agg #[.slice a code.length cap, .int .i64 d]] W fun e w' => e = .returned (.int .i64 0) ∧ Below W.heap.size W w') := fun W hW => by rw [← h]; exact Check_any a cap code d W hW (by omega)
  have HM : Hid (∀ W, ImgAt W a code → Calls Try.prog 16 #[.slice a code.length cap] W fun e w' => ∃ g, e = .returned (.slice (some ⟨g, 0, none⟩) code.length code.length) ∧ W.heap.size ≤ g ∧ BRow w' g (Mc.marks code) ∧ Below W.heap.size W w') := fun W hW => marksOf_any a cap code W hW h0 h1
  have HT := hid hT
  have HN := hid (fun (o : Obj) => (Below.refl w.heap.size w).alloc (Nat.le_refl _) o)
  clear hT h
  go_enter Try.func5, Try.ntmps5
  go_wp2_with (go_at_call 14; refine (HC.out _ (HT.out.later (HN.out _))).mono ?_; rintro e w1 ⟨rfl, hb1⟩; have HB1 : Hid (Below w.heap.size w w1) := (HN.out _).trans (hb1.mono (by simp)); have hx : w1.cell? ⟨w.heap.size, 0, none⟩ = some (.slice a code.length cap) := (hb1.cell (p := ⟨w.heap.size, 0, none⟩) (by simp)).trans (by simp); clear hb1)
  refine (HM.out _ (HT.out.later HB1.out)).mono ?_
  rintro e w2 ⟨g, rfl, hg, hr, hb2⟩
  have HE : Hid (w.heap.size ≤ g ∧ BRow w2 g (Mc.marks code) ∧ Below w.heap.size w w2) := ⟨Nat.le_trans HB1.out.size hg, hr, HB1.out.trans (hb2.mono HB1.out.size)⟩
  clear hg hr hb2
  go_wp2_with fail
  go_ret2
  exact ⟨g, rfl, HE.out⟩
set_option maxHeartbeats 800000 in
theorem Marks_bad (a : Option Addr) (cap : Nat) (code : List Mc.Ins) (d : Int) (w : World) (hT : ImgAt w a code) (hl : code.length ≤ 1000000000000000) (h : ¬ checkI code d = 0) :
    Calls Try.prog 5 #[.agg #[.slice a code.length cap, .int .i64 d]] w fun e w' => e = .returned (.tuple #[.slice none 0 0, .int .i64 (checkI code d)]) ∧ Below w.heap.size w w' := by
  have HC : Hid (∀ W, ImgAt W a code → Calls Try.prog 14 #[.agg #[.slice a code.length cap, .int .i64 d]] W fun e w' => e = .returned (.int .i64 (checkI code d)) ∧ Below W.heap.size W w') := fun W hW => Check_any a cap code d W hW hl
  have HT := hid hT
  have HN := hid (fun (o : Obj) => (Below.refl w.heap.size w).alloc (Nat.le_refl _) o)
  generalize checkI code d = c at *
  clear hT
  go_enter Try.func5, Try.ntmps5
  go_wp2_with (go_at_call 14; refine (HC.out _ (HT.out.later (HN.out _))).mono ?_; rintro e w1 ⟨rfl, hb1⟩; have HB1 : Hid (Below w.heap.size w w1) := (HN.out _).trans (hb1.mono (by simp)); clear hb1)
  go_ret2
  exact ⟨rfl, HB1.out⟩

/- operations that follow -/
def fok (c : List Mc.Ins) (m : List Bool) (i : Nat) (ops : List Int) (j : Nat) : Bool := decide ((c.getD (i + j) Mc.dI).op = ops.getD j 0) && (decide (j = 0) || !(m.getD (i + j) true))
def fTo (c : List Mc.Ins) (m : List Bool) (i : Nat) (ops : List Int) : Nat → Bool
  | 0 => true
  | k + 1 => fTo c m i ops k && fok c m i ops k
def followB (c : List Mc.Ins) (m : List Bool) (i : Nat) (ops : List Int) : Bool := decide (i + ops.length ≤ c.length) && fTo c m i ops ops.length
theorem fTo_false {c : List Mc.Ins} {m : List Bool} {i : Nat} {ops : List Int} {k n : Nat} (hk : k < n) (h : fok c m i ops k = false) : fTo c m i ops n = false := by
  induction n with
  | zero => omega
  | succ n ih =>
    unfold fTo
    by_cases e : k = n
    · subst e; rw [h]; simp
    · rw [ih (by omega)]; rfl

/- a hole: the code as it was, as it is by now, and the marks -/
structure Hole (w : World) (wa : Option Addr) (g m : Nat) (was c : List Mc.Ins) (mk : List Bool) : Prop where
  old : ImgAt w wa was
  apart : ∀ b off, wa = some ⟨b, off, none⟩ → b ≠ g
  code : CRow w g c
  marks : BRow w m mk
  gm : m ≠ g
  lc : c.length = was.length
  lm : mk.length = was.length
  pos : 0 < was.length
  len : was.length ≤ 2048
theorem Hole.later {w w' : World} {wa : Option Addr} {g m : Nat} {was c : List Mc.Ins} {mk : List Bool} (h : Hole w wa g m was c mk) (hb : Below w.heap.size w w') : Hole w' wa g m was c mk :=
  ⟨h.old.later hb, h.apart, h.code.kept (grown_below none hb) (by simp), h.marks.kept (grown_below none hb) (by simp), h.gm, h.lc, h.lm, h.pos, h.len⟩
def holeV (wa : Option Addr) (g m n wc gc mc : Nat) : Value := .agg #[.slice wa n wc, .slice (some ⟨g, 0, none⟩) n gc, .slice (some ⟨m, 0, none⟩) n mc]

set_option maxHeartbeats 1600000 in
theorem follow_any (wa : Option Addr) (g m n wc gc mc : Nat) (was c : List Mc.Ins) (mk : List Bool) (i : Nat) (ops : List Int) (ob oc : Nat) (w : World) (h : Hole w wa g m was c mk) (hn : n = was.length) (hi : i < n) (ho : NumsAt w (some ⟨ob, 0, none⟩) ops) (h3 : ops.length ≤ 3) (h1 : 0 < ops.length) :
    Calls Try.prog 31 #[.agg #[.slice wa n wc, .slice (some ⟨g, 0, none⟩) n gc, .slice (some ⟨m, 0, none⟩) n mc], .int .i64 i, .slice (some ⟨ob, 0, none⟩) ops.length oc] w fun e w' => e = .returned (.bool (followB c mk i ops)) ∧ Below w.heap.size w w' := by
  obtain ⟨W0, hW0⟩ : ∃ W0 : World, W0 = w.alloc (.cells #[.slice wa n wc, .slice (some ⟨g, 0, none⟩) n gc, .slice (some ⟨m, 0, none⟩) n mc] 47) := ⟨_, rfl⟩
  have hb0 : Below w.heap.size w W0 := by rw [hW0]; exact (Below.refl _ _).alloc (Nat.le_refl _) _
  have x1 : W0.cell? ⟨w.heap.size, 1, none⟩ = some (.slice (some ⟨g, 0, none⟩) n gc) := by rw [hW0]; simp
  have x2 : W0.cell? ⟨w.heap.size, 2, none⟩ = some (.slice (some ⟨m, 0, none⟩) n mc) := by rw [hW0]; simp
  have HW0 := hid hW0
  have HB0 := hid hb0
  have HH := hid (h.later hb0)
  have HO := hid (ho.later hb0)
  have HLc : Hid (c.length = n) := by rw [hn]; exact h.lc
  have HLm : Hid (mk.length = n) := by rw [hn]; exact h.lm
  have hlen : n ≤ 2048 := by rw [hn]; exact h.len
  clear hW0 hb0 h ho hn
  by_cases hfit : i + ops.length ≤ n
  · have HF : Hid (followB c mk i ops = fTo c mk i ops ops.length) := by show _ = _; unfold followB; rw [HLc.out]; simp [hfit]
    rw [HF.out]
    go_enter Try.func31, Try.ntmps31
    go_wp2_with fail
    rw [← HW0.out]
    go_loop [19, 7, 8] (fun u _ _ => ∃ k : Nat, k ≤ ops.length ∧ u = .int .i64 k ∧ fTo c mk i ops k = true) (fun u _ _ => ops.length - (intOf u).toNat)
    case atStart => exact ⟨0, Nat.zero_le _, rfl, rfl⟩
    case round =>
      obtain ⟨k, hk, rfl, hto⟩ := hrel
      have HTo := hid hto
      clear hto
      by_cases hlt : k < ops.length
      · obtain ⟨b', off', e', o1⟩ := HO.out.place hlt
        cases e'
        have c1 := HH.out.code.op (i + k) (by rw [HLc.out]; omega)
        have c2 := HH.out.marks.cell (i + k) (by rw [HLm.out]; omega)
        have HK : Hid (fok c mk i ops k = (decide ((c.getD (i + k) Mc.dI).op = ops[k]) && (decide (k = 0) || !(mk.getD (i + k) true)))) := by
          show _ = _
          unfold fok
          rw [show ops.getD k 0 = ops[k] from by rw [List.getD_eq_getElem?_getD, List.getElem?_eq_getElem hlt]; rfl]
        have HSu : Hid (fok c mk i ops k = true → fTo c mk i ops (k + 1) = true) := fun h => by
          show (fTo c mk i ops k && fok c mk i ops k) = true
          rw [HTo.out, h]; rfl
        have HNo : Hid (fok c mk i ops k = false → fTo c mk i ops ops.length = false) := fun h => fTo_false hlt h
        rw [Nat.zero_add] at o1
        obtain ⟨J, hJ⟩ : ∃ J, i + k = J := ⟨_, rfl⟩
        have hJn : J < n := by omega
        have hJi : (i : Int) + (k : Int) = (J : Int) := by omega
        rw [hJ] at c1 c2 HK
        generalize ops[k] = y at *
        generalize (c.getD J Mc.dI).op = z at *
        generalize mk.getD J true = mb at *
        by_cases hk0 : k = 0
        · subst hk0
          obtain rfl : i = J := hJ
          clear hJi hJn
          by_cases hzy : z = y
          · subst hzy
            have HT1 := hid (HSu.out (by rw [HK.out]; simp))
            clear HSu HNo HK
            go_wp2_with fail
            go_round
            case rel => exact ⟨1, by omega, rfl, HT1.out⟩
            case measure => simp [intOf]; omega
          · have HT1 := hid (HNo.out (by rw [HK.out]; simp [hzy]))
            have hzy' : (z == y) = false := beq_eq_false_iff_ne.2 hzy
            clear HSu HNo HK
            go_wp2_with fail
            go_ret
            exact ⟨ret_bool HT1.out.symm, HB0.out⟩
        · have hk1 : 0 < k := by omega
          by_cases hzy : z = y
          · subst hzy
            cases mb with
            | true =>
              have HT1 := hid (HNo.out (by rw [HK.out]; simp [hk0]))
              clear HSu HNo HK hk0 hJ
              go_wp2_with fail
              go_ret
              exact ⟨ret_bool HT1.out.symm, HB0.out⟩
            | false =>
              have HT1 := hid (HSu.out (by rw [HK.out]; simp))
              clear HSu HNo HK hk0 hJ
              go_wp2_with fail
              go_round
              case rel => exact ⟨k + 1, by omega, by go_num, HT1.out⟩
              case measure => simp [intOf]; omega
          · have HT1 := hid (HNo.out (by rw [HK.out]; simp [hzy]))
            have hzy' : (z == y) = false := beq_eq_false_iff_ne.2 hzy
            clear HSu HNo HK hk0 hJ
            go_wp2_with fail
            go_ret
            exact ⟨ret_bool HT1.out.symm, HB0.out⟩
      · obtain rfl : k = ops.length := by omega
        go_wp2_with fail
        go_ret
        exact ⟨ret_bool HTo.out.symm, HB0.out⟩
  · have HF : Hid (followB c mk i ops = false) := by show _ = _; unfold followB; rw [HLc.out]; simp; omega
    rw [HF.out]
    go_enter Try.func31, Try.ntmps31
    go_wp2_with fail
    rw [← HW0.out]
    go_ret
    exact ⟨rfl, HB0.out⟩

end Go.Proofs.Ytpahhhhfhnpmjaa
