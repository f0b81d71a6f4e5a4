/-
  The checker's looks at expressions: kinds, how many, forms.
-/
import Derived.Test.YtndkhgakfodldaaGreatDoorCa
namespace Go.Proofs.YtndkhgakfodldaaGreatDoor
open Go.RowKit Go.Maps

theorem oneB {w w1 w3 : World} {o1 : Obj} (hb : Below w.heap.size w w1) (h3 : Below (w1.alloc o1).heap.size (w1.alloc o1) w3) : Below w.heap.size w w3 := by
  have h1 := hb.alloc hb.size o1
  exact h1.trans (h3.mono h1.size)
theorem twoB {w w1 w3 : World} {o1 o2 : Obj} (hb : Below w.heap.size w w1) (h3 : Below ((w1.alloc o1).alloc o2).heap.size ((w1.alloc o1).alloc o2) w3) : Below w.heap.size w w3 :=
  oneB (hb.alloc hb.size o1) h3
theorem thenB {w w1 w3 : World} (hb : Below w.heap.size w w1) (h3 : Below w1.heap.size w1 w3) : Below w.heap.size w w3 := hb.trans (h3.mono hb.size)
theorem al1 (w : World) (o : Obj) : Below w.heap.size w (w.alloc o) := (Below.refl _ _).alloc (Nat.le_refl _) _
theorem al2 (w : World) (o1 o2 : Obj) : Below w.heap.size w ((w.alloc o1).alloc o2) := (al1 w o1).alloc (by simp) _
/- A block of our own. -/
structure Blk (w : World) (b : Nat) (cs : List Value) : Prop where
  lt : b < w.heap.size
  cell : ∀ j v, cs[j]? = some v → w.cell? ⟨b, j, none⟩ = some v
theorem Blk.later {w w' : World} {b : Nat} {cs : List Value} (h : Blk w b cs) (hb : Below w.heap.size w w') : Blk w' b cs :=
  ⟨Nat.lt_of_lt_of_le h.lt hb.size, fun j v hj => (hb.cell (p := ⟨b, j, none⟩) h.lt).trans (h.cell j v hj)⟩
theorem Blk.new (w : World) (cs : Array Value) (t : TypeId) : Blk (w.alloc (.cells cs t)) w.heap.size cs.toList :=
  ⟨by simp, fun j v hj => by rw [Lib.cell_of_heap (heap_new w _)]; simpa using hj⟩
theorem Blk.new1 (w : World) (cs : Array Value) (t : TypeId) (o : Obj) : Blk ((w.alloc (.cells cs t)).alloc o) w.heap.size cs.toList := (Blk.new w cs t).later (al1 _ _)
theorem Blk.new2 (w : World) (cs : Array Value) (t : TypeId) (o : Obj) : Blk ((w.alloc o).alloc (.cells cs t)) (w.heap.size + 1) cs.toList := by
  have := Blk.new (w.alloc o) cs t
  simpa using this
theorem Blk.c2 {w : World} {b : Nat} {a0 a1 : Value} (h : Blk w b [a0, a1]) : w.cell? ⟨b, 0, none⟩ = some a0 ∧ w.cell? ⟨b, 1, none⟩ = some a1 ∧ b < w.heap.size := ⟨h.cell 0 _ rfl, h.cell 1 _ rfl, h.lt⟩
theorem Blk.c5 {w : World} {b : Nat} {a0 a1 a2 a3 a4 : Value} (h : Blk w b [a0, a1, a2, a3, a4]) : w.cell? ⟨b, 0, none⟩ = some a0 ∧ w.cell? ⟨b, 1, none⟩ = some a1 ∧ w.cell? ⟨b, 2, none⟩ = some a2 ∧ w.cell? ⟨b, 3, none⟩ = some a3 ∧ w.cell? ⟨b, 4, none⟩ = some a4 ∧ b < w.heap.size :=
  ⟨h.cell 0 _ rfl, h.cell 1 _ rfl, h.cell 2 _ rfl, h.cell 3 _ rfl, h.cell 4 _ rfl, h.lt⟩
theorem Blk.c6 {w : World} {b : Nat} {a0 a1 a2 a3 a4 a5 : Value} (h : Blk w b [a0, a1, a2, a3, a4, a5]) : w.cell? ⟨b, 0, none⟩ = some a0 ∧ w.cell? ⟨b, 1, none⟩ = some a1 ∧ w.cell? ⟨b, 2, none⟩ = some a2 ∧ w.cell? ⟨b, 3, none⟩ = some a3 ∧ w.cell? ⟨b, 4, none⟩ = some a4 ∧ w.cell? ⟨b, 5, none⟩ = some a5 ∧ b < w.heap.size :=
  ⟨h.cell 0 _ rfl, h.cell 1 _ rfl, h.cell 2 _ rfl, h.cell 3 _ rfl, h.cell 4 _ rfl, h.cell 5 _ rfl, h.lt⟩
set_option maxRecDepth 100000 in
set_option maxHeartbeats 800000 in
theorem exKinds_any (be bs : Nat) (A : Nat → Prop) : ∀ (k : Nat), k ≤ 6 → ∀ (l : List Ex) (a : Option Addr) (cap : Nat) (deep : Int) (w : World), deep = 7 - (k : Int) → DAt w A a l.length (exsD l) → ShAt w be 15 exSh →
    Calls Tryz.prog 235 #[.agg #[.map (some be), .map (some bs)], .slice a l.length cap, .int .i64 deep] w fun e w' => e = .returned (.bool (exKinds k l)) ∧ Below w.heap.size w w'
  | 0, _, l, a, cap, deep, w, hd, _, _ => by
    subst hd
    have HR : Hid (exKinds 0 l = true) := by show _ = _; simp [exKinds]
    go_enter Tryz.func235, Tryz.ntmps235
    go_wp2_with fail
    go_ret
    exact ⟨ret_bool HR.out.symm, (Below.refl _ _).alloc (Nat.le_refl _) _⟩
  | k + 1, hk, l, a, cap, deep, w, hd, hD, hS => by
    have HR : Hid (exKinds (k + 1) l = l.all (fun x => exB x.op && exKinds k x.args)) := by show _ = _; simp [exKinds]
    have hbd := hD.bound
    have hd1 : 1 ≤ deep := by omega
    have hd6 : deep ≤ 6 := by omega
    have HI : Hid (∀ (l : List Ex) (a : Option Addr) (cap : Nat) (w : World), DAt w A a l.length (exsD l) → ShAt w be 15 exSh →
      Calls Tryz.prog 235 #[.agg #[.map (some be), .map (some bs)], .slice a l.length cap, .int .i64 (deep + 1)] w fun e w' => e = .returned (.bool (exKinds k l)) ∧ Below w.heap.size w w') :=
      fun l a cap w h1 h2 => exKinds_any be bs A k (by omega) l a cap (deep + 1) w (by omega) h1 h2
    have HD : Hid (DAt w A a l.length (exsD l)) := hD
    have HS : Hid (ShAt w be 15 exSh) := hS
    clear hD hS hd
    have HB : Hid (Blk (w.alloc (.cells #[.map (some be), .map (some bs)] 235)) w.heap.size [.map (some be), .map (some bs)]) := Blk.new w _ _
    go_enter Tryz.func235, Tryz.ntmps235
    go_wp2_with fail
    go_loopw [15] (fun i wr => ∃ j : Nat, j ≤ l.length ∧ i = .int .i64 j ∧ (l.take j).all (fun x => exB x.op && exKinds k x.args) = true ∧ Below w.heap.size w wr ∧ Blk wr w.heap.size [.map (some be), .map (some bs)]) (fun i _ => l.length - (intOf i).toNat)
    case atStart => exact ⟨0, Nat.zero_le _, rfl, rfl, al1 _ _, HB.out⟩
    case round =>
      clear HB
      obtain ⟨j, hj, rfl, hall, hb, hB⟩ := hrel
      have q0 := hB.cell 0 _ rfl
      have q1 := hB.cell 1 _ rfl
      have qz := hB.lt
      have HB : Hid (Blk wr w.heap.size [.map (some be), .map (some bs)]) := hB
      have HA : Hid ((l.take j).all (fun x => exB x.op && exKinds k x.args) = true) := hall
      clear hall hB
      by_cases hlt : j < l.length
      · obtain ⟨b, off, aa, cp, rfl, hx⟩ := (HD.out.later hb).ex j hlt
        have hc0 := hx.c0
        have hc1 := hx.c1
        have hc2 := hx.c2
        have hc3 := hx.c3
        have hc4 := hx.c4
        have hlb := hx.lt
        have HX : Hid (DAt wr A aa l[j].args.length (exsD l[j].args)) := hx.args
        have hlk := ((HS.out.later hb).later (al1 _ (.cells #[.int .i64 l[j].op, .int .i64 l[j].n, .string l[j].mod, .string l[j].name, .slice aa l[j].args.length cp] 174))).look_ok hx.wop
        simp only [Sh.val] at hlk
        clear hx
        cases hop : (exSh l[j].op).isSome with
        | false =>
          rw [hop] at hlk
          have HF : Hid (l.all (fun x => exB x.op && exKinds k x.args) = false) := all_not l _ j hlt (by simp [exB, hop])
          go_wp2_with fail
          go_ret
          exact ⟨ret_bool (by rw [HR.out, HF.out]), thenB hb (al2 _ _ _)⟩
        | true =>
          rw [hop] at hlk
          go_wp2_with fail
          refine (HI.out l[j].args aa cp _ (HX.out.later (al2 _ _ _)) ((HS.out.later hb).later (al2 _ _ _))).mono ?_
          cases hr : exKinds k l[j].args with
          | false =>
            have HF : Hid (l.all (fun x => exB x.op && exKinds k x.args) = false) := all_not l _ j hlt (by simp [hr])
            rintro e w3 ⟨rfl, hb3⟩
            go_wp2_with fail
            go_ret
            exact ⟨ret_bool (by rw [HR.out, HF.out]), twoB hb hb3⟩
          | true =>
            have HT : Hid ((l.take (j + 1)).all (fun x => exB x.op && exKinds k x.args) = true) := by
              show _ = _
              rw [all_snoc l _ j hlt, HA.out]; simp [exB, hop, hr]
            rintro e w3 ⟨rfl, hb3⟩
            go_wp2_with fail
            go_roundw
            case rel => exact ⟨j + 1, by omega, by go_num, HT.out, twoB hb hb3, HB.out.later (thenB (al2 _ _ _) hb3)⟩
            case measure => simp [intOf]; omega
      · have HT : Hid (l.all (fun x => exB x.op && exKinds k x.args) = true) := all_end HA.out hlt
        go_wp2_with fail
        go_ret
        exact ⟨ret_bool (by rw [HR.out, HT.out]), hb⟩
set_option maxRecDepth 100000 in
set_option maxHeartbeats 800000 in
theorem exMany_nil (a : Option Addr) (cap : Nat) (deep : Int) (w : World) :
    Calls Tryz.prog 236 #[.slice a 0 cap, .int .i64 deep] w fun e w' => e = .returned (.bool false) ∧ Below w.heap.size w w' := by
  go_enter Tryz.func236, Tryz.ntmps236
  go_wp2_with fail
  go_loopw [21] (fun i wr => i = .int .i64 0 ∧ wr = w) (fun _ _ => 0)
  case atStart => exact ⟨rfl, rfl⟩
  case round =>
    obtain ⟨rfl, rfl⟩ := hrel
    go_wp2_with fail
    go_ret
    exact ⟨rfl, Below.refl _ _⟩
theorem exMany_of_nil (k : Nat) {l : List Ex} (h : l.length = 0) : exMany k l = false := by
  have : l = [] := List.eq_nil_of_length_eq_zero h
  subst this
  cases k <;> simp [exMany]
set_option maxRecDepth 100000 in
set_option maxHeartbeats 800000 in
theorem exMany_any (A : Nat → Prop) : ∀ (k : Nat), k ≤ 6 → ∀ (l : List Ex) (a : Option Addr) (cap : Nat) (deep : Int) (w : World), deep = 7 - (k : Int) → DAt w A a l.length (exsD l) →
    Calls Tryz.prog 236 #[.slice a l.length cap, .int .i64 deep] w fun e w' => e = .returned (.bool (exMany k l)) ∧ Below w.heap.size w w'
  | 0, _, l, a, cap, deep, w, hd, hD => by
    subst hd
    have hbd := hD.bound
    clear hD
    by_cases h0 : l.length = 0
    · rw [exMany_of_nil 0 h0, h0]
      exact exMany_nil a cap _ w
    · have HR : Hid (exMany 0 l = true) := by show _ = _; simp [exMany]; omega
      by_cases h3 : 3 < l.length
      · go_enter Tryz.func236, Tryz.ntmps236
        go_wp2_with fail
        go_ret
        exact ⟨ret_bool HR.out.symm, Below.refl _ _⟩
      · go_enter Tryz.func236, Tryz.ntmps236
        go_wp2_with fail
        go_ret
        exact ⟨ret_bool HR.out.symm, Below.refl _ _⟩
  | k + 1, hk, l, a, cap, deep, w, hd, hD => by
    have HR : Hid (exMany (k + 1) l = (decide (3 < l.length) || l.any (fun x => exMany k x.args))) := by show _ = _; simp [exMany]
    have hbd := hD.bound
    have hd1 : 1 ≤ deep := by omega
    have hd6 : deep ≤ 6 := by omega
    have HI : Hid (∀ (l : List Ex) (a : Option Addr) (cap : Nat) (w : World), DAt w A a l.length (exsD l) →
      Calls Tryz.prog 236 #[.slice a l.length cap, .int .i64 (deep + 1)] w fun e w' => e = .returned (.bool (exMany k l)) ∧ Below w.heap.size w w') :=
      fun l a cap w h1 => exMany_any A k (by omega) l a cap (deep + 1) w (by omega) h1
    have HD : Hid (DAt w A a l.length (exsD l)) := hD
    clear hD hd
    by_cases h0 : l.length = 0
    · rw [exMany_of_nil (k + 1) h0, h0]
      exact exMany_nil a cap _ w
    have h0' : 0 < l.length := by omega
    clear h0
    by_cases h3 : 3 < l.length
    · have HT : Hid (exMany (k + 1) l = true) := by show _ = _; rw [HR.out]; simp [h3]
      clear hd1
      go_enter Tryz.func236, Tryz.ntmps236
      go_wp2_with fail
      go_ret
      exact ⟨ret_bool HT.out.symm, Below.refl _ _⟩
    · have HN : Hid (exMany (k + 1) l = l.any (fun x => exMany k x.args)) := by show _ = _; rw [HR.out]; simp [h3]
      clear HR
      go_enter Tryz.func236, Tryz.ntmps236
      go_wp2_with fail
      · go_loopw [21] (fun i wr => ∃ j : Nat, j ≤ l.length ∧ i = .int .i64 j ∧ (l.take j).any (fun x => exMany k x.args) = false ∧ Below w.heap.size w wr) (fun i _ => l.length - (intOf i).toNat)
        case atStart => exact ⟨0, Nat.zero_le _, rfl, rfl, Below.refl _ _⟩
        case round =>
          obtain ⟨j, hj, rfl, hall, hb⟩ := hrel
          have HA : Hid ((l.take j).any (fun x => exMany k x.args) = false) := hall
          clear hall
          by_cases hlt : j < l.length
          · obtain ⟨b, off, aa, cp, rfl, hx⟩ := (HD.out.later hb).ex j hlt
            have hc0 := hx.c0
            have hc1 := hx.c1
            have hc2 := hx.c2
            have hc3 := hx.c3
            have hc4 := hx.c4
            have hlb := hx.lt
            have HX : Hid (DAt wr A aa l[j].args.length (exsD l[j].args)) := hx.args
            clear hx
            go_wp2_with fail
            refine (HI.out l[j].args aa cp _ (HX.out.later (al1 _ _))).mono ?_
            cases hr : exMany k l[j].args with
            | true =>
              have HF : Hid (l.any (fun x => exMany k x.args) = true) := any_at l _ j hlt hr
              rintro e w3 ⟨rfl, hb3⟩
              go_wp2_with fail
              go_ret
              exact ⟨ret_bool (by rw [HN.out, HF.out]), oneB hb hb3⟩
            | false =>
              have HT : Hid ((l.take (j + 1)).any (fun x => exMany k x.args) = false) := by
                show _ = _
                rw [any_snoc l _ j hlt, HA.out]; simp [hr]
              rintro e w3 ⟨rfl, hb3⟩
              go_wp2_with fail
              go_roundw
              case rel => exact ⟨j + 1, by omega, by go_num, HT.out, oneB hb hb3⟩
              case measure => simp [intOf]; omega
          · have HT : Hid (l.any (fun x => exMany k x.args) = false) := any_end HA.out hlt
            go_wp2_with fail
            go_ret
            exact ⟨ret_bool (by rw [HN.out, HT.out]), hb⟩
theorem exMany_args {k : Nat} {l : List Ex} (h : exMany (k + 1) l = false) (j : Nat) (hj : j < l.length) : exMany k l[j].args = false := by
  simp only [exMany, Bool.or_eq_false_iff, List.any_eq_false] at h
  have := h.2 l[j] (List.getElem_mem hj)
  simpa using this
set_option maxRecDepth 100000 in
set_option maxHeartbeats 1600000 in
theorem exForm_any (be bs : Nat) (A : Nat → Prop) : ∀ (k : Nat) (l : List Ex) (a : Option Addr) (cap : Nat) (w : World), DAt w A a l.length (exsD l) → ShAt w be 15 exSh → exMany k l = false →
    Calls Tryz.prog 244 #[.agg #[.map (some be), .map (some bs)], .slice a l.length cap] w fun e w' => e = .returned (.bool (exForm k l)) ∧ Below w.heap.size w w' := by
  intro k
  induction k with
  | zero =>
    intro l a cap w hD hS hM
    have h0 : l.length = 0 := by simp [exMany] at hM; simp [hM]
    have HR : Hid (exForm 0 l = true) := by show _ = _; simp [exForm]
    rw [h0]
    go_enter Tryz.func244, Tryz.ntmps244
    go_wp2_with fail
    go_loopw [10] (fun i wr => i = .int .i64 0 ∧ Below w.heap.size w wr) (fun _ _ => 0)
    case atStart => exact ⟨rfl, al1 _ _⟩
    case round =>
      obtain ⟨rfl, hb⟩ := hrel
      go_wp2_with fail
      go_ret
      exact ⟨ret_bool HR.out.symm, hb⟩
  | succ k ih =>
    intro l a cap w hD hS hM
    have HR : Hid (exForm (k + 1) l = l.all (fun x => refOk (exS x.op) x.mod x.name && (nOk (exS x.op) x.n && (countOk (exS x.op) x.args.length && exForm k x.args)))) := by show _ = _; simp [exForm]
    have hbd := hD.bound
    have HI : Hid (∀ (l : List Ex) (a : Option Addr) (cap : Nat) (w : World), DAt w A a l.length (exsD l) → ShAt w be 15 exSh → exMany k l = false →
      Calls Tryz.prog 244 #[.agg #[.map (some be), .map (some bs)], .slice a l.length cap] w fun e w' => e = .returned (.bool (exForm k l)) ∧ Below w.heap.size w w') := ih
    have HD : Hid (DAt w A a l.length (exsD l)) := hD
    have HS : Hid (ShAt w be 15 exSh) := hS
    have HM : Hid (∀ (j : Nat) (hj : j < l.length), exMany k l[j].args = false) := exMany_args hM
    clear hD hS ih hM
    have HB : Hid (Blk (w.alloc (.cells #[.map (some be), .map (some bs)] 235)) w.heap.size [.map (some be), .map (some bs)]) := Blk.new w _ _
    go_enter Tryz.func244, Tryz.ntmps244
    go_wp2_with fail
    go_loopw [10] (fun i wr => ∃ j : Nat, j ≤ l.length ∧ i = .int .i64 j ∧ (l.take j).all (fun x => refOk (exS x.op) x.mod x.name && (nOk (exS x.op) x.n && (countOk (exS x.op) x.args.length && exForm k x.args))) = true ∧ Below w.heap.size w wr ∧ Blk wr w.heap.size [.map (some be), .map (some bs)]) (fun i _ => l.length - (intOf i).toNat)
    case atStart => exact ⟨0, Nat.zero_le _, rfl, rfl, al1 _ _, HB.out⟩
    case round =>
      clear HB
      obtain ⟨j, hj, rfl, hall, hb, hB⟩ := hrel
      have q0 := hB.cell 0 _ rfl
      have q1 := hB.cell 1 _ rfl
      have qz := hB.lt
      have HB : Hid (Blk wr w.heap.size [.map (some be), .map (some bs)]) := hB
      have HA : Hid ((l.take j).all (fun x => refOk (exS x.op) x.mod x.name && (nOk (exS x.op) x.n && (countOk (exS x.op) x.args.length && exForm k x.args))) = true) := hall
      clear hall hB
      by_cases hlt : j < l.length
      · obtain ⟨b, off, aa, cp, rfl, hx⟩ := (HD.out.later hb).ex j hlt
        have hc0 := hx.c0
        have hc1 := hx.c1
        have hc2 := hx.c2
        have hc3 := hx.c3
        have hc4 := hx.c4
        have hlb := hx.lt
        have HX : Hid (ExAt wr A b (off + j * 5) l[j] aa cp) := hx
        have HF : Hid (∀ c : Bool, (refOk (exS l[j].op) l[j].mod l[j].name && (nOk (exS l[j].op) l[j].n && (countOk (exS l[j].op) l[j].args.length && exForm k l[j].args))) = false → exForm (k + 1) l = false) := fun _ h => by rw [HR.out]; exact all_not l _ j hlt h
        have HT : Hid ((refOk (exS l[j].op) l[j].mod l[j].name && (nOk (exS l[j].op) l[j].n && (countOk (exS l[j].op) l[j].args.length && exForm k l[j].args))) = true → (l.take (j + 1)).all (fun x => refOk (exS x.op) x.mod x.name && (nOk (exS x.op) x.n && (countOk (exS x.op) x.args.length && exForm k x.args))) = true) := fun h => by
          rw [all_snoc l _ j hlt, HA.out, h]; rfl
        have hlk := ((HS.out.later hb).later (al1 _ (.cells #[.int .i64 l[j].op, .int .i64 l[j].n, .string l[j].mod, .string l[j].name, .slice aa l[j].args.length cp] 174))).look hx.wop
        clear hx
        have hlk' : (Instr.lookup 232 (.map (some be)) (.int .i64 l[j].op) false).run Tryz.prog (wr.alloc (.cells #[.int .i64 l[j].op, .int .i64 l[j].n, .string l[j].mod, .string l[j].name, .slice aa l[j].args.length cp] 174)) = .ok (exS l[j].op).val (wr.alloc (.cells #[.int .i64 l[j].op, .int .i64 l[j].n, .string l[j].mod, .string l[j].name, .slice aa l[j].args.length cp] 174)) := hlk
        clear hlk
        generalize hs : exS l[j].op = s at hlk' HF HT
        clear hs
        simp only [Sh.val] at hlk'
        go_wp2_with fail
        refine (refHolds_any s l[j].mod l[j].name _ HX.out.wm HX.out.wna).mono ?_
        cases h1 : refOk s l[j].mod l[j].name with
        | false =>
          rintro e w3 ⟨rfl, c3⟩
          have hb3 : Below wr.heap.size wr w3 := thenB (al2 _ _ _) c3
          clear c3
          go_wp2_with fail
          go_ret
          exact ⟨ret_bool (HF.out true (by simp [h1])).symm, thenB hb hb3⟩
        | true =>
          rintro e w3 ⟨rfl, c3⟩
          have B0 := (HB.out.later (al2 _ _ _)).later c3
          have B1 := (Blk.new1 wr #[.int .i64 l[j].op, .int .i64 l[j].n, .string l[j].mod, .string l[j].name, .slice aa l[j].args.length cp] 174 _).later c3
          have B2 := (Blk.new2 wr #[.bool s.named, .bool s.number, .int .i64 s.least, .int .i64 s.most, .bool s.body, .bool s.other] 270 _).later c3
          have hb3 : Below wr.heap.size wr w3 := thenB (al2 _ _ _) c3
          clear c3 q0 q1 qz
          obtain ⟨q0, q1, qz⟩ := B0.c2
          obtain ⟨x0, x1, x2, x3, x4, xz⟩ := B1.c5
          obtain ⟨y0, y1, y2, y3, y4, y5, yz⟩ := B2.c6
          have K0 : Hid (Blk w3 w.heap.size [.map (some be), .map (some bs)]) := B0
          have K1 : Hid (Blk w3 wr.heap.size [.int .i64 l[j].op, .int .i64 l[j].n, .string l[j].mod, .string l[j].name, .slice aa l[j].args.length cp]) := B1
          have K2 : Hid (Blk w3 (wr.heap.size + 1) [.bool s.named, .bool s.number, .int .i64 s.least, .int .i64 s.most, .bool s.body, .bool s.other]) := B2
          clear B0 B1 B2
          go_wp2_with fail
          refine (numberHolds_any s l[j].n _).mono ?_
          cases h2 : nOk s l[j].n with
          | false =>
            rintro e w4 ⟨rfl, c4⟩
            have hb4 := thenB hb3 c4
            clear c4
            go_wp2_with fail
            go_ret
            exact ⟨ret_bool (HF.out true (by simp [h2])).symm, thenB hb hb4⟩
          | true =>
            rintro e w4 ⟨rfl, c4⟩
            have B0 := K0.out.later c4
            have B1 := K1.out.later c4
            have B2 := K2.out.later c4
            have hb4 := thenB hb3 c4
            clear c4 K0 K1 K2
            clear q0 q1 qz x0 x1 x2 x3 x4 xz y0 y1 y2 y3 y4 y5 yz
            obtain ⟨q0, q1, qz⟩ := B0.c2
            obtain ⟨x0, x1, x2, x3, x4, xz⟩ := B1.c5
            obtain ⟨y0, y1, y2, y3, y4, y5, yz⟩ := B2.c6
            have K0 : Hid (Blk w4 w.heap.size [.map (some be), .map (some bs)]) := B0
            have K1 : Hid (Blk w4 wr.heap.size [.int .i64 l[j].op, .int .i64 l[j].n, .string l[j].mod, .string l[j].name, .slice aa l[j].args.length cp]) := B1
            have K2 : Hid (Blk w4 (wr.heap.size + 1) [.bool s.named, .bool s.number, .int .i64 s.least, .int .i64 s.most, .bool s.body, .bool s.other]) := B2
            clear B0 B1 B2
            go_wp2_with fail
            refine (countHolds_any s aa l[j].args.length cp _).mono ?_
            cases h3 : countOk s l[j].args.length with
            | false =>
              rintro e w5 ⟨rfl, c5⟩
              have hb5 := thenB hb4 c5
              clear c5
              go_wp2_with fail
              go_ret
              exact ⟨ret_bool (HF.out true (by simp [h3])).symm, thenB hb hb5⟩
            | true =>
              rintro e w5 ⟨rfl, c5⟩
              have B0 := K0.out.later c5
              have B1 := K1.out.later c5
              have B2 := K2.out.later c5
              have hb5 := thenB hb4 c5
              clear c5 K0 K1 K2
              clear q0 q1 qz x0 x1 x2 x3 x4 xz y0 y1 y2 y3 y4 y5 yz
              obtain ⟨q0, q1, qz⟩ := B0.c2
              obtain ⟨x0, x1, x2, x3, x4, xz⟩ := B1.c5
              obtain ⟨y0, y1, y2, y3, y4, y5, yz⟩ := B2.c6
              have K0 : Hid (Blk w5 w.heap.size [.map (some be), .map (some bs)]) := B0
              have K1 : Hid (Blk w5 wr.heap.size [.int .i64 l[j].op, .int .i64 l[j].n, .string l[j].mod, .string l[j].name, .slice aa l[j].args.length cp]) := B1
              have K2 : Hid (Blk w5 (wr.heap.size + 1) [.bool s.named, .bool s.number, .int .i64 s.least, .int .i64 s.most, .bool s.body, .bool s.other]) := B2
              clear B0 B1 B2
              go_wp2_with fail
              refine (HI.out l[j].args aa cp _ (HX.out.args.later hb5) ((HS.out.later hb).later hb5) (HM.out j hlt)).mono ?_
              cases h4 : exForm k l[j].args with
              | false =>
                rintro e w6 ⟨rfl, c6⟩
                have hb6 := thenB hb5 c6
                clear c6
                go_wp2_with fail
                go_ret
                exact ⟨ret_bool (HF.out true (by simp [h4])).symm, thenB hb hb6⟩
              | true =>
                rintro e w6 ⟨rfl, c6⟩
                have hb6 := thenB hb5 c6
                have B0 := K0.out.later c6
                clear c6
                have HT' : Hid ((l.take (j + 1)).all (fun x => refOk (exS x.op) x.mod x.name && (nOk (exS x.op) x.n && (countOk (exS x.op) x.args.length && exForm k x.args))) = true) := HT.out (by simp [h1, h2, h3, h4])
                go_wp2_with fail
                go_roundw
                case rel => exact ⟨j + 1, by omega, by go_num, HT'.out, thenB hb hb6, B0⟩
                case measure => simp [intOf]; omega
      · have HT : Hid (l.all (fun x => refOk (exS x.op) x.mod x.name && (nOk (exS x.op) x.n && (countOk (exS x.op) x.args.length && exForm k x.args))) = true) := all_end HA.out hlt
        go_wp2_with fail
        go_ret
        exact ⟨ret_bool (by rw [HR.out, HT.out]), hb⟩
end Go.Proofs.YtndkhgakfodldaaGreatDoor
