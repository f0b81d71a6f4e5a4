/-
  Package scope: find and routine.
-/
import Derived.Test.YtndkhgakfodldaaGreatDoorUb
import Derived.Test.YtndkhgakfodldaaGreatDoorPd
namespace Go.Proofs.YtndkhgakfodldaaGreatDoor
open Go.RowKit Go.Maps Go.WideMaps
set_option linter.unusedSimpArgs false

theorem bl2 (w : World) (o p : Obj) : Below w.heap.size w ((w.alloc o).alloc p) := thenB (al1 w o) (al1 _ p)
theorem bl3 (w : World) (o p q : Obj) : Below w.heap.size w (((w.alloc o).alloc p).alloc q) := thenB (bl2 w o p) (al1 _ q)
set_option maxRecDepth 100000 in
set_option maxHeartbeats 1600000 in
theorem find_no (kv lv : Value) (g : Mg) (c : Int) (bl em : Bool) (mod name : ByteArray) (ks : List Int) (b cap : Nat) (w : World) (hem : mod.toList.isEmpty = em) (hno : (bl && em) = false)
    (h1 : (Instr.lookup 187 kv (.agg #[.string mod, .string name]) true).run Tryz.prog ((w.alloc (.cells #[kv, lv] 195)).alloc (.cells #[.int .i64 0, .int .i64 0, .int .i64 0, .int .i64 0] 242)) = .ok (.tuple #[.agg #[.int .i64 g.kind, .int .i64 g.n, .int .i64 g.m, .int .i64 g.at_], .bool false]) ((w.alloc (.cells #[kv, lv] 195)).alloc (.cells #[.int .i64 0, .int .i64 0, .int .i64 0, .int .i64 0] 242)))
    (h2 : (Instr.lookup 185 lv (.string name) true).run Tryz.prog (((w.alloc (.cells #[kv, lv] 195)).alloc (.cells #[.int .i64 0, .int .i64 0, .int .i64 0, .int .i64 0] 242)).alloc (.cells #[.int .i64 g.kind, .int .i64 g.n, .int .i64 g.m, .int .i64 g.at_] 242)) = .ok (.tuple #[.int .i64 c, .bool bl]) (((w.alloc (.cells #[kv, lv] 195)).alloc (.cells #[.int .i64 0, .int .i64 0, .int .i64 0, .int .i64 0] 242)).alloc (.cells #[.int .i64 g.kind, .int .i64 g.n, .int .i64 g.m, .int .i64 g.at_] 242))) :
    Calls Tryz.prog 256 #[.agg #[kv, lv], .string mod, .string name, .slice (some ⟨b, 0, none⟩) ks.length cap] w fun e w' => e = .returned (.tuple #[mg0.val, .int .i64 5]) ∧ Below w.heap.size w w' := by
  have HB := hid (fun o p q => bl3 w o p q)
  cases bl with
  | false =>
    clear hno
    go_enter Tryz.func256, Tryz.ntmps256
    go_wp2_with fail
    refine bodyPost_ret (v := .tuple #[mg0.val, .int .i64 5]) (by simp [results, Tryz.results256, go_sem, Mg.val, mg0]) rfl ⟨rfl, HB.out _ _ _⟩
  | true =>
    cases em with
    | true => cases hno
    | false =>
      clear hno
      go_enter Tryz.func256, Tryz.ntmps256
      go_wp2_with fail
      refine bodyPost_ret (v := .tuple #[mg0.val, .int .i64 5]) (by simp [results, Tryz.results256, go_sem, Mg.val, mg0]) rfl ⟨rfl, HB.out _ _ _⟩
set_option maxRecDepth 100000 in
set_option maxHeartbeats 1600000 in
theorem find_own (kv lv : Value) (g : Mg) (c : Int) (bl em : Bool) (mod name : ByteArray) (ks : List Int) (b cap : Nat) (w : World) (hI : IntsIn w b ks) (hl : ks.length ≤ 1000) (r : Mg × Int) (hr : r = if ks.contains g.kind then (g, 0) else (mg0, 7)) (hem : mod.toList.isEmpty = em) (hno : (bl && em) = false)
    (h1 : (Instr.lookup 187 kv (.agg #[.string mod, .string name]) true).run Tryz.prog ((w.alloc (.cells #[kv, lv] 195)).alloc (.cells #[.int .i64 0, .int .i64 0, .int .i64 0, .int .i64 0] 242)) = .ok (.tuple #[.agg #[.int .i64 g.kind, .int .i64 g.n, .int .i64 g.m, .int .i64 g.at_], .bool true]) ((w.alloc (.cells #[kv, lv] 195)).alloc (.cells #[.int .i64 0, .int .i64 0, .int .i64 0, .int .i64 0] 242)))
    (h2 : (Instr.lookup 185 lv (.string name) true).run Tryz.prog (((w.alloc (.cells #[kv, lv] 195)).alloc (.cells #[.int .i64 0, .int .i64 0, .int .i64 0, .int .i64 0] 242)).alloc (.cells #[.int .i64 g.kind, .int .i64 g.n, .int .i64 g.m, .int .i64 g.at_] 242)) = .ok (.tuple #[.int .i64 c, .bool bl]) (((w.alloc (.cells #[kv, lv] 195)).alloc (.cells #[.int .i64 0, .int .i64 0, .int .i64 0, .int .i64 0] 242)).alloc (.cells #[.int .i64 g.kind, .int .i64 g.n, .int .i64 g.m, .int .i64 g.at_] 242))) :
    Calls Tryz.prog 256 #[.agg #[kv, lv], .string mod, .string name, .slice (some ⟨b, 0, none⟩) ks.length cap] w fun e w' => e = .returned (.tuple #[r.1.val, .int .i64 r.2]) ∧ Below w.heap.size w w' := by
  have HB := hid (fun o p q => bl3 w o p q)
  have HI := hid hI
  have HQ := hid hr
  clear hI hr
  cases bl with
  | false =>
    clear hno
    go_enter Tryz.func256, Tryz.ntmps256
    go_wp2_with fail
    refine (containsI_any ks g.kind b cap _ (HI.out.later (HB.out _ _ _)) hl).mono ?_
    rintro e w' ⟨rfl, rfl⟩
    cases hc : ks.contains g.kind with
    | false =>
      have HR : Hid (r = (mg0, 7)) := HQ.out.trans (by rw [hc]; rfl)
      clear hc
      go_wp2_with fail
      refine bodyPost_ret (v := .tuple #[mg0.val, .int .i64 7]) (by simp [results, Tryz.results256, go_sem, Mg.val, mg0]) rfl ⟨by rw [HR.out], HB.out _ _ _⟩
    | true =>
      have HR : Hid (r = (⟨g.kind, g.n, g.m, g.at_⟩, 0)) := HQ.out.trans (by rw [hc]; rfl)
      clear hc
      go_wp2_with fail
      refine bodyPost_ret (v := .tuple #[.agg #[.int .i64 g.kind, .int .i64 g.n, .int .i64 g.m, .int .i64 g.at_], .int .i64 0]) (by simp [results, Tryz.results256, go_sem, Mg.val, mg0]) rfl ⟨by rw [HR.out]; rfl, HB.out _ _ _⟩
  | true =>
    cases em with
    | true => cases hno
    | false =>
      clear hno
      go_enter Tryz.func256, Tryz.ntmps256
      go_wp2_with fail
      refine (containsI_any ks g.kind b cap _ (HI.out.later (HB.out _ _ _)) hl).mono ?_
      rintro e w' ⟨rfl, rfl⟩
      cases hc : ks.contains g.kind with
      | false =>
        have HR : Hid (r = (mg0, 7)) := HQ.out.trans (by rw [hc]; rfl)
        clear hc
        go_wp2_with fail
        refine bodyPost_ret (v := .tuple #[mg0.val, .int .i64 7]) (by simp [results, Tryz.results256, go_sem, Mg.val, mg0]) rfl ⟨by rw [HR.out], HB.out _ _ _⟩
      | true =>
        have HR : Hid (r = (⟨g.kind, g.n, g.m, g.at_⟩, 0)) := HQ.out.trans (by rw [hc]; rfl)
        clear hc
        go_wp2_with fail
        refine bodyPost_ret (v := .tuple #[.agg #[.int .i64 g.kind, .int .i64 g.n, .int .i64 g.m, .int .i64 g.at_], .int .i64 0]) (by simp [results, Tryz.results256, go_sem, Mg.val, mg0]) rfl ⟨by rw [HR.out]; rfl, HB.out _ _ _⟩
set_option maxRecDepth 100000 in
set_option maxHeartbeats 1600000 in
theorem find_local (kv lv : Value) (g : Mg) (c : Int) (bk : Bool) (mod name : ByteArray) (ks : List Int) (b cap : Nat) (w : World) (hI : IntsIn w b ks) (hl : ks.length ≤ 1000) (r : Mg × Int) (hr : r = if ks.contains 0 then (⟨0, 0, 0, c⟩, 0) else (mg0, 7)) (hem : mod.toList.isEmpty = true)
    (h1 : (Instr.lookup 187 kv (.agg #[.string mod, .string name]) true).run Tryz.prog ((w.alloc (.cells #[kv, lv] 195)).alloc (.cells #[.int .i64 0, .int .i64 0, .int .i64 0, .int .i64 0] 242)) = .ok (.tuple #[.agg #[.int .i64 g.kind, .int .i64 g.n, .int .i64 g.m, .int .i64 g.at_], .bool bk]) ((w.alloc (.cells #[kv, lv] 195)).alloc (.cells #[.int .i64 0, .int .i64 0, .int .i64 0, .int .i64 0] 242)))
    (h2 : (Instr.lookup 185 lv (.string name) true).run Tryz.prog (((w.alloc (.cells #[kv, lv] 195)).alloc (.cells #[.int .i64 0, .int .i64 0, .int .i64 0, .int .i64 0] 242)).alloc (.cells #[.int .i64 g.kind, .int .i64 g.n, .int .i64 g.m, .int .i64 g.at_] 242)) = .ok (.tuple #[.int .i64 c, .bool true]) (((w.alloc (.cells #[kv, lv] 195)).alloc (.cells #[.int .i64 0, .int .i64 0, .int .i64 0, .int .i64 0] 242)).alloc (.cells #[.int .i64 g.kind, .int .i64 g.n, .int .i64 g.m, .int .i64 g.at_] 242))) :
    Calls Tryz.prog 256 #[.agg #[kv, lv], .string mod, .string name, .slice (some ⟨b, 0, none⟩) ks.length cap] w fun e w' => e = .returned (.tuple #[r.1.val, .int .i64 r.2]) ∧ Below w.heap.size w w' := by
  have HB := hid (fun o p q => bl3 w o p q)
  have HI := hid hI
  have HQ := hid hr
  clear hI hr
  go_enter Tryz.func256, Tryz.ntmps256
  go_wp2_with fail
  refine (containsI_any ks 0 b cap _ (HI.out.later (HB.out _ _ _)) hl).mono ?_
  rintro e w' ⟨rfl, rfl⟩
  cases hc : ks.contains 0 with
  | false =>
    have HR : Hid (r = (mg0, 7)) := HQ.out.trans (by rw [hc]; rfl)
    clear hc
    go_wp2_with fail
    refine bodyPost_ret (v := .tuple #[mg0.val, .int .i64 7]) (by simp [results, Tryz.results256, go_sem, Mg.val, mg0]) rfl ⟨by rw [HR.out], HB.out _ _ _⟩
  | true =>
    have HR : Hid (r = (⟨0, 0, 0, c⟩, 0)) := HQ.out.trans (by rw [hc]; rfl)
    clear hc
    go_wp2_with fail
    refine bodyPost_ret (v := .tuple #[.agg #[.int .i64 0, .int .i64 0, .int .i64 0, .int .i64 c], .int .i64 0]) (by simp [results, Tryz.results256, go_sem, Mg.val, mg0]) rfl ⟨by rw [HR.out]; rfl, HB.out _ _ _⟩
theorem find_any (K : Kn) (L : Lc) (kv lv : Value) (mod name : ByteArray) (ks : List Int) (b cap : Nat) (w : World) (hK : KnAt w kv K) (hL : LcAt w lv L) (hm : mod.size ≤ maxLen) (hn : name.size ≤ maxLen) (hI : IntsIn w b ks) (hl : ks.length ≤ 1000) :
    Calls Tryz.prog 256 #[.agg #[kv, lv], .string mod, .string name, .slice (some ⟨b, 0, none⟩) ks.length cap] w fun e w' => e = .returned (.tuple #[(findM K L mod name ks).1.val, .int .i64 (findM K L mod name ks).2]) ∧ Below w.heap.size w w' := by
  have h1 := hK ((w.alloc (.cells #[kv, lv] 195)).alloc (.cells #[.int .i64 0, .int .i64 0, .int .i64 0, .int .i64 0] 242)) (bl2 _ _ _) mod name hm hn
  generalize hg : (K mod name).getD mg0 = g at h1
  have h2 := hL (((w.alloc (.cells #[kv, lv] 195)).alloc (.cells #[.int .i64 0, .int .i64 0, .int .i64 0, .int .i64 0] 242)).alloc (.cells #[.int .i64 g.kind, .int .i64 g.n, .int .i64 g.m, .int .i64 g.at_] 242)) (bl3 _ _ _ _) name hn
  have he := empty_size mod
  unfold findM lookM
  cases hl' : L name with
  | some c =>
    rw [hl'] at h2
    by_cases hz : mod.size = 0
    · rw [if_pos hz]
      rw [decide_eq_true hz] at he
      exact find_local kv lv g c _ mod name ks b cap w hI hl _ rfl he h1 h2
    · rw [if_neg hz]
      rw [decide_eq_false hz] at he
      cases hk : K mod name with
      | none => rw [hk] at h1; exact find_no kv lv g c true false mod name ks b cap w he rfl h1 h2
      | some x =>
        rw [hk] at h1 hg
        obtain rfl : x = g := hg
        exact find_own kv lv x c true false mod name ks b cap w hI hl _ rfl he rfl h1 h2
  | none =>
    rw [hl'] at h2
    have e : (if mod.size = 0 then (match (none : Option Int) with | some a => some (⟨0, 0, 0, a⟩ : Mg) | none => K mod name) else K mod name) = K mod name := by split <;> rfl
    simp only [ite_self]
    cases hk : K mod name with
    | none => rw [hk] at h1; exact find_no kv lv g 0 false _ mod name ks b cap w he rfl h1 h2
    | some x =>
      rw [hk] at h1 hg
      obtain rfl : x = g := hg
      exact find_own kv lv x 0 false _ mod name ks b cap w hI hl _ rfl he rfl h1 h2
theorem ints_new (w : World) (l : List Int) (t : TypeId) (b : Nat) (hb : b = w.heap.size) : IntsIn (w.alloc (.cells (l.map (Value.int .i64)).toArray t)) b l := by
  subst hb
  refine ⟨by simp, fun j hj => ?_⟩
  rw [Lib.cell_of_heap (heap_newP w _)]
  simp [hj]
theorem below_set4 {B b : Nat} {a w : World} (h : Below B a w) (hb : B ≤ b) (v0 v1 v2 v3 : Value) : Below B a ((((w.setCell ⟨b, 0, none⟩ v0).setCell ⟨b, 1, none⟩ v1).setCell ⟨b, 2, none⟩ v2).setCell ⟨b, 3, none⟩ v3) :=
  (((h.setCell (p := ⟨b, 0, none⟩) hb _).setCell (p := ⟨b, 1, none⟩) hb _).setCell (p := ⟨b, 2, none⟩) hb _).setCell (p := ⟨b, 3, none⟩) hb _
/- what find answers to a call that hands it a new list of kinds -/
theorem find_new (K : Kn) (L : Lc) (kv lv : Value) (mod name : ByteArray) (ks : List Int) (t : TypeId) (b cap : Nat) (w : World) (hb : b = w.heap.size) (hK : KnAt w kv K) (hL : LcAt w lv L) (hm : mod.size ≤ maxLen) (hn : name.size ≤ maxLen) (hl : ks.length ≤ 1000) :
    Calls Tryz.prog 256 #[.agg #[kv, lv], .string mod, .string name, .slice (some ⟨b, 0, none⟩) ks.length cap] (w.alloc (.cells (ks.map (Value.int .i64)).toArray t)) fun e w' => e = .returned (.tuple #[(findM K L mod name ks).1.val, .int .i64 (findM K L mod name ks).2]) ∧ Below w.heap.size w w' :=
  (find_any K L kv lv mod name ks b cap _ (hK.later (al1 _ _)) (hL.later (al1 _ _)) hm hn (ints_new w ks t b hb) hl).mono fun _ _ h => ⟨h.1, thenB (al1 _ _) h.2⟩
set_option maxRecDepth 100000 in
set_option maxHeartbeats 1600000 in
theorem routine_any (K : Kn) (L : Lc) (kv lv : Value) (mod name : ByteArray) (handed : Int) (w : World) (hK : KnAt w kv K) (hL : LcAt w lv L) (hm : mod.size ≤ maxLen) (hn : name.size ≤ maxLen) :
    Calls Tryz.prog 257 #[.agg #[kv, lv], .string mod, .string name, .int .i64 handed] w fun e w' => e = .returned (.tuple #[(routM K L mod name handed).1.val, .int .i64 (routM K L mod name handed).2]) ∧ Below w.heap.size w w' := by
  have HC := hid (find_new K L kv lv mod name [4] 3 (w.heap.size + 2) 1 ((w.alloc (.cells #[kv, lv] 195)).alloc (.cells #[.int .i64 0, .int .i64 0, .int .i64 0, .int .i64 0] 242)) (by simp) (hK.later (bl2 _ _ _)) (hL.later (bl2 _ _ _)) hm hn (by decide))
  have HB := hid (fun o p => bl2 w o p)
  have hR : ∀ x, routM K L mod name handed = x → Hid (routM K L mod name handed = x) := fun x h => h
  unfold routM at hR ⊢
  clear hK hL hm hn
  generalize findM K L mod name [4] = r at *
  obtain ⟨⟨kd, n, m, at_⟩, er⟩ := r
  simp only [Mg.val] at HC hR
  generalize hq : (if er = 0 ∧ n ≠ handed then (mg0, (8 : Int)) else (({ kind := kd, n := n, m := m, at_ := at_ } : Mg), er)) = q at *
  have HQ := hid hq
  clear hq hR
  go_enter Tryz.func257, Tryz.ntmps257
  go_wp2_with fail
  refine HC.out.mono ?_
  rintro e w1 ⟨rfl, hb1⟩
  have HB1 := hid (thenB (HB.out _ _) hb1)
  have hz1 := hb1.size
  simp at hz1
  have HQ1 : Hid (w1.heap[w.heap.size + 1]? = some (.cells #[.int .i64 0, .int .i64 0, .int .i64 0, .int .i64 0] 242)) := (hb1.block (w.heap.size + 1) (by simp)).trans (by have := heap_newP (w.alloc (.cells #[kv, lv] 195)) (.cells #[.int .i64 0, .int .i64 0, .int .i64 0, .int .i64 0] 242); simpa using this)
  obtain ⟨h0, h1, h2, h3, h4⟩ := cellsOf4 HQ1.out
  have hlt : w.heap.size + 1 < w1.heap.size := by omega
  clear hb1 HC
  by_cases he : er = 0
  · by_cases hn : n = handed
    · have HR : Hid (q = (⟨kd, n, m, at_⟩, 0)) := HQ.out.symm.trans (by rw [if_neg (by simp [hn]), he])
      subst he hn
      clear HQ
      go_wp2_with fail
      refine bodyPost_ret (v := .tuple #[.agg #[.int .i64 kd, .int .i64 n, .int .i64 m, .int .i64 at_], .int .i64 0]) (by simp [results, Tryz.results257, go_sem, h0, h1, h2, h3, hlt]) rfl ⟨by rw [HR.out]; rfl, ?_⟩
      first | exact below_set4 (HB1.out.alloc HB1.out.size _) (by omega) _ _ _ _ | exact (below_set4 HB1.out (by omega) _ _ _ _).alloc (by simp; omega) _
    · have HR : Hid (q = (mg0, 8)) := HQ.out.symm.trans (by rw [if_pos ⟨he, hn⟩])
      subst he
      clear HQ
      go_wp2_with fail
      refine bodyPost_ret (v := .tuple #[mg0.val, .int .i64 8]) (by simp [results, Tryz.results257, go_sem, Mg.val, mg0, h0, h1, h2, h3, hlt]) rfl ⟨by rw [HR.out], ?_⟩
      first | exact below_set4 (HB1.out.alloc HB1.out.size _) (by omega) _ _ _ _ | exact (below_set4 HB1.out (by omega) _ _ _ _).alloc (by simp; omega) _
  · have HR : Hid (q = (⟨kd, n, m, at_⟩, er)) := HQ.out.symm.trans (by rw [if_neg (by simp [he])])
    clear HQ
    go_wp2_with fail
    refine bodyPost_ret (v := .tuple #[.agg #[.int .i64 kd, .int .i64 n, .int .i64 m, .int .i64 at_], .int .i64 er]) (by simp [results, Tryz.results257, go_sem, h0, h1, h2, h3, hlt]) rfl ⟨by rw [HR.out]; rfl, ?_⟩
    first | exact below_set4 (HB1.out.alloc HB1.out.size _) (by omega) _ _ _ _ | exact (below_set4 HB1.out (by omega) _ _ _ _).alloc (by simp; omega) _
end Go.Proofs.YtndkhgakfodldaaGreatDoor

namespace Go.Proofs.YtndkhgakfodldaaGreatDoor
open Go.RowKit Go.Maps Go.WideMaps
set_option linter.unusedSimpArgs false

def Al.node (a : Al) : Value := .agg #[.int .i64 a.op, .int .i64 a.n, .int .i64 a.m, .int .i64 a.at_, .slice none 0 0]
def Al.act (a : Al) : Value := .agg #[.int .i64 a.op, .int .i64 a.n, .int .i64 a.m, .int .i64 a.at_, .slice none 0 0, .slice none 0 0, .slice none 0 0]
theorem bset5 {B b : Nat} {a w : World} (h : Below B a w) (hb : B ≤ b) (v0 v1 v2 v3 v4 : Value) : Below B a (set5 w b v0 v1 v2 v3 v4) :=
  (below_set4 h hb v0 v1 v2 v3).setCell (p := ⟨b, 4, none⟩) hb _
theorem bset7 {B b : Nat} {a w : World} (h : Below B a w) (hb : B ≤ b) (v0 v1 v2 v3 v4 v5 v6 : Value) : Below B a (((set5 w b v0 v1 v2 v3 v4).setCell ⟨b, 5, none⟩ v5).setCell ⟨b, 6, none⟩ v6) :=
  ((bset5 h hb v0 v1 v2 v3 v4).setCell (p := ⟨b, 5, none⟩) hb _).setCell (p := ⟨b, 6, none⟩) hb _
theorem cellsOf7 {w : World} {b : Nat} {x0 x1 x2 x3 x4 x5 x6 : Value} {t : TypeId} (h : w.heap[b]? = some (.cells #[x0, x1, x2, x3, x4, x5, x6] t (0, 0))) :
    w.cell? ⟨b, 0, none⟩ = some x0 ∧ w.cell? ⟨b, 1, none⟩ = some x1 ∧ w.cell? ⟨b, 2, none⟩ = some x2 ∧ w.cell? ⟨b, 3, none⟩ = some x3 ∧ w.cell? ⟨b, 4, none⟩ = some x4 ∧ w.cell? ⟨b, 5, none⟩ = some x5 ∧ w.cell? ⟨b, 6, none⟩ = some x6 ∧ ∀ i, w.frozen? ⟨b, i, none⟩ = false := by
  refine ⟨?_, ?_, ?_, ?_, ?_, ?_, ?_, fun i => Lib.frozen_of_heap h i⟩ <;> (rw [Lib.cell_of_heap h]; rfl)
/- the blocks that a call makes first, behind another call -/
theorem kept3 {w w1 : World} {o p q : Obj} (h : Below (((w.alloc o).alloc p).alloc q).heap.size (((w.alloc o).alloc p).alloc q) w1) : w1.heap[w.heap.size]? = some o ∧ w1.heap[w.heap.size + 1]? = some p ∧ w1.heap[w.heap.size + 2]? = some q := by
  refine ⟨(h.block _ (by simp; omega)).trans (heap_old (heap_old (heap_newP w o))), (h.block _ (by simp)).trans (heap_old (by simpa using heap_newP (w.alloc o) p)), (h.block _ (by simp)).trans (by simpa using heap_newP ((w.alloc o).alloc p) q)⟩
set_option maxRecDepth 100000 in
set_option maxHeartbeats 1600000 in
theorem value_any (K : Kn) (L : Lc) (kv lv : Value) (op n : Int) (mod name : ByteArray) (aa : Option Addr) (k cap : Nat) (w : World) (hK : KnAt w kv K) (hL : LcAt w lv L) (hm : mod.size ≤ maxLen) (hn : name.size ≤ maxLen) :
    Calls Tryz.prog 288 #[.agg #[kv, lv], .agg #[.int .i64 op, .int .i64 n, .string mod, .string name, .slice aa k cap]] w fun e w' => e = .returned (.tuple #[(valM K L mod name).node, .int .i64 (valM K L mod name).err]) ∧ Below w.heap.size w w' := by
  have HC := hid (find_new K L kv lv mod name [0, 1, 2] 3 (w.heap.size + 3) 3 (((w.alloc (.cells #[kv, lv] 195)).alloc (.cells #[.int .i64 op, .int .i64 n, .string mod, .string name, .slice aa k cap] 174)).alloc (.cells #[.int .i64 0, .int .i64 0, .int .i64 0, .int .i64 0, .slice none 0 0] 253)) (by simp) (hK.later (bl3 _ _ _ _)) (hL.later (bl3 _ _ _ _)) hm hn (by decide))
  have HB := hid (fun o p q => bl3 w o p q)
  obtain ⟨r, hq⟩ : ∃ r, r = valM K L mod name := ⟨_, rfl⟩
  rw [← hq]
  unfold valM at hq
  clear hK hL hm hn
  generalize findM K L mod name [0, 1, 2] = f at *
  obtain ⟨⟨kd, fn, fm, fa⟩, er⟩ := f
  simp only [Mg.val] at HC hq
  have HQ := hid hq
  clear hq
  go_enter Tryz.func288, Tryz.ntmps288
  go_wp2_with fail
  refine HC.out.mono ?_
  rintro e w1 ⟨rfl, hb1⟩
  have HB1 := hid (thenB (HB.out _ _ _) hb1)
  have hz1 := hb1.size
  simp at hz1
  obtain ⟨q0, q1, q2⟩ := kept3 hb1
  obtain ⟨h0, h1, h2, h3, h4, h5⟩ := cellsOf5 q2
  have hlt : w.heap.size + 2 < w1.heap.size := by omega
  clear hb1 HC q0 q1 q2
  by_cases he : er = 0
  · subst he
    by_cases h1k : kd = 1
    · have HR : Hid (r = ⟨1, fn, 0, 0, 0⟩) := HQ.out.trans (by rw [if_neg (by simp), if_pos h1k])
      subst h1k
      clear HQ
      go_wp2_with fail
      refine bodyPost_ret (v := .tuple #[.agg #[.int .i64 1, .int .i64 fn, .int .i64 0, .int .i64 0, .slice none 0 0], .int .i64 0]) (by simp [results, Tryz.results288, go_sem, h0, h1, h2, h3, h4, hlt]) rfl ⟨by rw [HR.out]; rfl, ?_⟩
      exact (bset5 HB1.out (by omega) _ _ _ _ _).alloc (by simp; omega) _
    · by_cases h2k : kd = 2
      · have HR : Hid (r = ⟨3, 0, fm, fa, 0⟩) := HQ.out.trans (by rw [if_neg (by simp), if_neg h1k, if_pos h2k])
        subst h2k
        clear HQ h1k
        go_wp2_with fail
        refine bodyPost_ret (v := .tuple #[.agg #[.int .i64 3, .int .i64 0, .int .i64 fm, .int .i64 fa, .slice none 0 0], .int .i64 0]) (by simp [results, Tryz.results288, go_sem, h0, h1, h2, h3, h4, hlt]) rfl ⟨by rw [HR.out]; rfl, ?_⟩
        exact (bset5 HB1.out (by omega) _ _ _ _ _).alloc (by simp; omega) _
      · have HR : Hid (r = ⟨16, 0, 0, fa, 0⟩) := HQ.out.trans (by rw [if_neg (by simp), if_neg h1k, if_neg h2k])
        clear HQ
        go_wp2_with fail
        refine bodyPost_ret (v := .tuple #[.agg #[.int .i64 16, .int .i64 0, .int .i64 0, .int .i64 fa, .slice none 0 0], .int .i64 0]) (by simp [results, Tryz.results288, go_sem, h0, h1, h2, h3, h4, hlt]) rfl ⟨by rw [HR.out]; rfl, ?_⟩
        exact (bset5 HB1.out (by omega) _ _ _ _ _).alloc (by simp; omega) _
  · have HR : Hid (r = ⟨0, 0, 0, 0, er⟩) := HQ.out.trans (by rw [if_pos he])
    clear HQ
    go_wp2_with fail
    refine bodyPost_ret (v := .tuple #[.agg #[.int .i64 0, .int .i64 0, .int .i64 0, .int .i64 0, .slice none 0 0], .int .i64 er]) (by simp [results, Tryz.results288, go_sem, h0, h1, h2, h3, h4, hlt]) rfl ⟨by rw [HR.out]; rfl, ?_⟩
    exact (bset5 HB1.out (by omega) _ _ _ _ _).alloc (by simp; omega) _
set_option maxRecDepth 100000 in
set_option maxHeartbeats 1600000 in
theorem nodeAlone_3 (K : Kn) (L : Lc) (kv lv : Value) (op n : Int) (mod name : ByteArray) (aa : Option Addr) (k cap : Nat) (w : World) (hK : KnAt w kv K) (hL : LcAt w lv L) (hm : mod.size ≤ maxLen) (hn : name.size ≤ maxLen) (h3 : op = 3) (r : Al) (hr : r = valM K L mod name) :
    Calls Tryz.prog 258 #[.agg #[kv, lv], .agg #[.int .i64 op, .int .i64 n, .string mod, .string name, .slice aa k cap]] w fun e w' => e = .returned (.tuple #[r.node, .int .i64 r.err]) ∧ Below w.heap.size w w' := by
  have HC := hid (value_any K L kv lv op n mod name aa k cap (((w.alloc (.cells #[kv, lv] 195)).alloc (.cells #[.int .i64 op, .int .i64 n, .string mod, .string name, .slice aa k cap] 174)).alloc (.cells #[.int .i64 0, .int .i64 0, .int .i64 0, .int .i64 0, .slice none 0 0] 253)) (hK.later (bl3 _ _ _ _)) (hL.later (bl3 _ _ _ _)) hm hn)
  have HB := hid (fun o p q => bl3 w o p q)
  clear hK hL hm hn
  rw [← hr] at HC
  clear hr
  obtain ⟨ro, rn, rm, ra, re⟩ := r
  simp only [Al.node] at HC ⊢
  subst h3
  go_enter Tryz.func258, Tryz.ntmps258
  go_wp2_with fail
  refine HC.out.mono ?_
  rintro e w1 ⟨rfl, hb1⟩
  have HB1 := hid (thenB (HB.out _ _ _) hb1)
  have hz1 := hb1.size
  simp at hz1
  obtain ⟨q0, q1, q2⟩ := kept3 hb1
  obtain ⟨h0, h1, h2, h3, h4, h5⟩ := cellsOf5 q2
  have hlt : w.heap.size + 2 < w1.heap.size := by omega
  clear hb1 HC q0 q1 q2
  have HR : Hid (True) := trivial
  go_wp2_with fail
  refine bodyPost_ret (v := .tuple #[.agg #[.int .i64 ro, .int .i64 rn, .int .i64 rm, .int .i64 ra, .slice none 0 0], .int .i64 re]) (by simp [results, Tryz.results258, go_sem, h0, h1, h2, h3, h4, hlt]) rfl ⟨rfl, ?_⟩
  exact bset5 HB1.out (by omega) _ _ _ _ _
set_option maxRecDepth 100000 in
set_option maxHeartbeats 1600000 in
theorem nodeAlone_4 (K : Kn) (L : Lc) (kv lv : Value) (op n : Int) (mod name : ByteArray) (aa : Option Addr) (k cap : Nat) (w : World) (hK : KnAt w kv K) (hL : LcAt w lv L) (hm : mod.size ≤ maxLen) (hn : name.size ≤ maxLen) (hop : op = 4) (f : Mg × Int) (hf : f = findM K L mod name [3]) :
    Calls Tryz.prog 258 #[.agg #[kv, lv], .agg #[.int .i64 op, .int .i64 n, .string mod, .string name, .slice aa k cap]] w fun e w' => e = .returned (.tuple #[.agg #[.int .i64 4, .int .i64 f.1.n, .int .i64 f.1.m, .int .i64 f.1.at_, .slice none 0 0], .int .i64 f.2]) ∧ Below w.heap.size w w' := by
  have HC := hid (find_new K L kv lv mod name [3] 3 (w.heap.size + 3) 1 (((w.alloc (.cells #[kv, lv] 195)).alloc (.cells #[.int .i64 op, .int .i64 n, .string mod, .string name, .slice aa k cap] 174)).alloc (.cells #[.int .i64 0, .int .i64 0, .int .i64 0, .int .i64 0, .slice none 0 0] 253)) (by simp) (hK.later (bl3 _ _ _ _)) (hL.later (bl3 _ _ _ _)) hm hn (by decide))
  have HB := hid (fun o p q => bl3 w o p q)
  clear hK hL hm hn
  rw [← hf] at HC
  clear hf
  obtain ⟨⟨kd, fn, fm, fa⟩, er⟩ := f
  simp only [Mg.val] at HC ⊢
  subst hop
  go_enter Tryz.func258, Tryz.ntmps258
  go_wp2_with fail
  refine HC.out.mono ?_
  rintro e w1 ⟨rfl, hb1⟩
  have HB1 := hid (thenB (HB.out _ _ _) hb1)
  have hz1 := hb1.size
  simp at hz1
  obtain ⟨q0, q1, q2⟩ := kept3 hb1
  obtain ⟨h0, h1, h2, h3, h4, h5⟩ := cellsOf5 q2
  have hlt : w.heap.size + 2 < w1.heap.size := by omega
  obtain ⟨x0, x1, x2, x3, x4, x5⟩ := cellsOf5 q1
  have hlx : w.heap.size + 1 < w1.heap.size := by omega
  clear hb1 HC q0 q1 q2
  go_wp2_with fail
  refine bodyPost_ret (v := .tuple #[.agg #[.int .i64 4, .int .i64 fn, .int .i64 fm, .int .i64 fa, .slice none 0 0], .int .i64 er]) (by simp [results, Tryz.results258, go_sem, h0, h1, h2, h3, h4, hlt]) rfl ⟨rfl, ?_⟩
  exact (bset5 HB1.out (by omega) _ _ _ _ _).alloc (by simp; omega) _
set_option maxRecDepth 100000 in
set_option maxHeartbeats 1600000 in
theorem nodeAlone_5 (K : Kn) (L : Lc) (kv lv : Value) (op n : Int) (mod name : ByteArray) (aa : Option Addr) (k cap : Nat) (w : World) (hK : KnAt w kv K) (hL : LcAt w lv L) (hm : mod.size ≤ maxLen) (hn : name.size ≤ maxLen) (hop : op = 5) (f : Mg × Int) (hf : f = routM K L mod name k) :
    Calls Tryz.prog 258 #[.agg #[kv, lv], .agg #[.int .i64 op, .int .i64 n, .string mod, .string name, .slice aa k cap]] w fun e w' => e = .returned (.tuple #[.agg #[.int .i64 5, .int .i64 0, .int .i64 f.1.m, .int .i64 f.1.at_, .slice none 0 0], .int .i64 f.2]) ∧ Below w.heap.size w w' := by
  have HC := hid (routine_any K L kv lv mod name k (((w.alloc (.cells #[kv, lv] 195)).alloc (.cells #[.int .i64 op, .int .i64 n, .string mod, .string name, .slice aa k cap] 174)).alloc (.cells #[.int .i64 0, .int .i64 0, .int .i64 0, .int .i64 0, .slice none 0 0] 253)) (hK.later (bl3 _ _ _ _)) (hL.later (bl3 _ _ _ _)) hm hn)
  have HB := hid (fun o p q => bl3 w o p q)
  clear hK hL hm hn
  rw [← hf] at HC
  clear hf
  obtain ⟨⟨kd, fn, fm, fa⟩, er⟩ := f
  simp only [Mg.val] at HC ⊢
  subst hop
  go_enter Tryz.func258, Tryz.ntmps258
  go_wp2_with fail
  refine HC.out.mono ?_
  rintro e w1 ⟨rfl, hb1⟩
  have HB1 := hid (thenB (HB.out _ _ _) hb1)
  have hz1 := hb1.size
  simp at hz1
  obtain ⟨q0, q1, q2⟩ := kept3 hb1
  obtain ⟨h0, h1, h2, h3, h4, h5⟩ := cellsOf5 q2
  have hlt : w.heap.size + 2 < w1.heap.size := by omega
  obtain ⟨x0, x1, x2, x3, x4, x5⟩ := cellsOf5 q1
  have hlx : w.heap.size + 1 < w1.heap.size := by omega
  clear hb1 HC q0 q1 q2
  go_wp2_with fail
  refine bodyPost_ret (v := .tuple #[.agg #[.int .i64 5, .int .i64 0, .int .i64 fm, .int .i64 fa, .slice none 0 0], .int .i64 er]) (by simp [results, Tryz.results258, go_sem, h0, h1, h2, h3, h4, hlt]) rfl ⟨rfl, ?_⟩
  exact (bset5 HB1.out (by omega) _ _ _ _ _).alloc (by simp; omega) _
set_option maxRecDepth 100000 in
set_option maxHeartbeats 1600000 in
theorem nodeAlone_0 (kv lv : Value) (op n : Int) (mod name : ByteArray) (aa : Option Addr) (k cap : Nat) (w : World) (h3 : op ≠ 3) (h4 : op ≠ 4) (h5 : op ≠ 5) :
    Calls Tryz.prog 258 #[.agg #[kv, lv], .agg #[.int .i64 op, .int .i64 n, .string mod, .string name, .slice aa k cap]] w fun e w' => e = .returned (.tuple #[.agg #[.int .i64 op, .int .i64 n, .int .i64 0, .int .i64 0, .slice none 0 0], .int .i64 0]) ∧ Below w.heap.size w w' := by
  have HB := hid (fun o p q => bl3 w o p q)
  go_enter Tryz.func258, Tryz.ntmps258
  go_wp2_with fail
  refine bodyPost_ret (v := .tuple #[.agg #[.int .i64 op, .int .i64 n, .int .i64 0, .int .i64 0, .slice none 0 0], .int .i64 0]) (by simp [results, Tryz.results258, go_sem]) rfl ⟨rfl, HB.out _ _ _⟩
theorem nodeAlone_any (K : Kn) (L : Lc) (kv lv : Value) (x : Ex) (aa : Option Addr) (cap : Nat) (w : World) (hK : KnAt w kv K) (hL : LcAt w lv L) (hm : x.mod.size ≤ maxLen) (hn : x.name.size ≤ maxLen) :
    Calls Tryz.prog 258 #[.agg #[kv, lv], .agg #[.int .i64 x.op, .int .i64 x.n, .string x.mod, .string x.name, .slice aa x.args.length cap]] w fun e w' => e = .returned (.tuple #[(ndM K L x).node, .int .i64 (ndM K L x).err]) ∧ Below w.heap.size w w' := by
  unfold ndM
  by_cases h3 : x.op = 3
  · rw [if_pos h3]
    exact nodeAlone_3 K L kv lv x.op x.n x.mod x.name aa x.args.length cap w hK hL hm hn h3 _ rfl
  rw [if_neg h3]
  by_cases h4 : x.op = 4
  · rw [if_pos h4]
    exact nodeAlone_4 K L kv lv x.op x.n x.mod x.name aa x.args.length cap w hK hL hm hn h4 _ rfl
  rw [if_neg h4]
  by_cases h5 : x.op = 5
  · rw [if_pos h5]
    exact nodeAlone_5 K L kv lv x.op x.n x.mod x.name aa x.args.length cap w hK hL hm hn h5 _ rfl
  rw [if_neg h5]
  exact nodeAlone_0 kv lv x.op x.n x.mod x.name aa x.args.length cap w h3 h4 h5
end Go.Proofs.YtndkhgakfodldaaGreatDoor

namespace Go.Proofs.YtndkhgakfodldaaGreatDoor
open Go.RowKit Go.Maps Go.WideMaps
set_option linter.unusedSimpArgs false

set_option maxRecDepth 100000 in
set_option maxHeartbeats 1600000 in
theorem actAlone_1 (K : Kn) (L : Lc) (kv lv : Value) (op : Int) (mod name : ByteArray) (a1 a2 a3 : Option Addr) (k1 k2 k3 c1 c2 c3 : Nat) (w : World) (hK : KnAt w kv K) (hL : LcAt w lv L) (hm : mod.size ≤ maxLen) (hn : name.size ≤ maxLen) (hop : op = 1) (f : Mg × Int) (hf : f = findM K L mod name [0, 2]) :
    Calls Tryz.prog 205 #[.agg #[kv, lv], .agg #[.int .i64 op, .string mod, .string name, .slice a1 k1 c1, .slice a2 k2 c2, .slice a3 k3 c3]] w fun e w' => e = .returned (.tuple #[.agg #[.int .i64 1, .int .i64 0, .int .i64 (if f.1.kind = 0 then -1 else f.1.m), .int .i64 f.1.at_, .slice none 0 0, .slice none 0 0, .slice none 0 0], .int .i64 f.2]) ∧ Below w.heap.size w w' := by
  have HC := hid (find_new K L kv lv mod name [0, 2] 3 (w.heap.size + 3) 2 (((w.alloc (.cells #[kv, lv] 195)).alloc (.cells #[.int .i64 op, .string mod, .string name, .slice a1 k1 c1, .slice a2 k2 c2, .slice a3 k3 c3] 176)).alloc (.cells #[.int .i64 0, .int .i64 0, .int .i64 0, .int .i64 0, .slice none 0 0, .slice none 0 0, .slice none 0 0] 109)) (by simp) (hK.later (bl3 _ _ _ _)) (hL.later (bl3 _ _ _ _)) hm hn (by decide))
  have HB := hid (fun o p q => bl3 w o p q)
  clear hK hL hm hn
  rw [← hf] at HC
  clear hf
  obtain ⟨⟨kd, fn, fm, fa⟩, er⟩ := f
  simp only [Mg.val] at HC ⊢
  generalize hq : (if kd = 0 then (-1 : Int) else fm) = q
  have HQ := hid hq
  clear hq
  subst hop
  go_enter Tryz.func205, Tryz.ntmps205
  go_wp2_with fail
  refine HC.out.mono ?_
  rintro e w1 ⟨rfl, hb1⟩
  have HB1 := hid (thenB (HB.out _ _ _) hb1)
  have hz1 := hb1.size
  simp at hz1
  obtain ⟨q0, q1, q2⟩ := kept3 hb1
  obtain ⟨h0, h1, h2, h3, h4, h5, h6, h7⟩ := cellsOf7 q2
  have hlt : w.heap.size + 2 < w1.heap.size := by omega
  obtain ⟨x0, x1, x2, x3, x4, x5, x6⟩ := cellsOf6 q1
  have hlx : w.heap.size + 1 < w1.heap.size := by omega
  clear hb1 HC q0 q1 q2
  by_cases hk : kd = 0
  · have HR : Hid (q = -1) := HQ.out.symm.trans (if_pos hk)
    subst hk
    clear HQ
    go_wp2_with fail
    refine bodyPost_ret (v := .tuple #[.agg #[.int .i64 1, .int .i64 0, .int .i64 (-1), .int .i64 fa, .slice none 0 0, .slice none 0 0, .slice none 0 0], .int .i64 er]) (by simp [results, Tryz.results205, go_sem, h0, h1, h2, h3, h4, h5, h6, hlt]) rfl ⟨by rw [HR.out], ?_⟩
    exact (bset7 HB1.out (by omega) _ _ _ _ _ _ _).alloc (by simp; omega) _
  · have HR : Hid (q = fm) := HQ.out.symm.trans (if_neg hk)
    clear HQ
    go_wp2_with fail
    refine bodyPost_ret (v := .tuple #[.agg #[.int .i64 1, .int .i64 0, .int .i64 fm, .int .i64 fa, .slice none 0 0, .slice none 0 0, .slice none 0 0], .int .i64 er]) (by simp [results, Tryz.results205, go_sem, h0, h1, h2, h3, h4, h5, h6, hlt]) rfl ⟨by rw [HR.out], ?_⟩
    exact (bset7 HB1.out (by omega) _ _ _ _ _ _ _).alloc (by simp; omega) _
set_option maxRecDepth 100000 in
set_option maxHeartbeats 1600000 in
theorem actAlone_2 (K : Kn) (L : Lc) (kv lv : Value) (op : Int) (mod name : ByteArray) (a1 a2 a3 : Option Addr) (k1 k2 k3 c1 c2 c3 : Nat) (w : World) (hK : KnAt w kv K) (hL : LcAt w lv L) (hm : mod.size ≤ maxLen) (hn : name.size ≤ maxLen) (hop : op = 2) (f : Mg × Int) (hf : f = findM K L mod name [3]) :
    Calls Tryz.prog 205 #[.agg #[kv, lv], .agg #[.int .i64 op, .string mod, .string name, .slice a1 k1 c1, .slice a2 k2 c2, .slice a3 k3 c3]] w fun e w' => e = .returned (.tuple #[.agg #[.int .i64 2, .int .i64 f.1.n, .int .i64 f.1.m, .int .i64 f.1.at_, .slice none 0 0, .slice none 0 0, .slice none 0 0], .int .i64 f.2]) ∧ Below w.heap.size w w' := by
  have HC := hid (find_new K L kv lv mod name [3] 3 (w.heap.size + 3) 1 (((w.alloc (.cells #[kv, lv] 195)).alloc (.cells #[.int .i64 op, .string mod, .string name, .slice a1 k1 c1, .slice a2 k2 c2, .slice a3 k3 c3] 176)).alloc (.cells #[.int .i64 0, .int .i64 0, .int .i64 0, .int .i64 0, .slice none 0 0, .slice none 0 0, .slice none 0 0] 109)) (by simp) (hK.later (bl3 _ _ _ _)) (hL.later (bl3 _ _ _ _)) hm hn (by decide))
  have HB := hid (fun o p q => bl3 w o p q)
  clear hK hL hm hn
  rw [← hf] at HC
  clear hf
  obtain ⟨⟨kd, fn, fm, fa⟩, er⟩ := f
  simp only [Mg.val] at HC ⊢
  subst hop
  go_enter Tryz.func205, Tryz.ntmps205
  go_wp2_with fail
  refine HC.out.mono ?_
  rintro e w1 ⟨rfl, hb1⟩
  have HB1 := hid (thenB (HB.out _ _ _) hb1)
  have hz1 := hb1.size
  simp at hz1
  obtain ⟨q0, q1, q2⟩ := kept3 hb1
  obtain ⟨h0, h1, h2, h3, h4, h5, h6, h7⟩ := cellsOf7 q2
  have hlt : w.heap.size + 2 < w1.heap.size := by omega
  obtain ⟨x0, x1, x2, x3, x4, x5, x6⟩ := cellsOf6 q1
  have hlx : w.heap.size + 1 < w1.heap.size := by omega
  clear hb1 HC q0 q1 q2
  go_wp2_with fail
  refine bodyPost_ret (v := .tuple #[.agg #[.int .i64 2, .int .i64 fn, .int .i64 fm, .int .i64 fa, .slice none 0 0, .slice none 0 0, .slice none 0 0], .int .i64 er]) (by simp [results, Tryz.results205, go_sem, h0, h1, h2, h3, h4, h5, h6, hlt]) rfl ⟨rfl, ?_⟩
  exact (bset7 HB1.out (by omega) _ _ _ _ _ _ _).alloc (by simp; omega) _
set_option maxRecDepth 100000 in
set_option maxHeartbeats 1600000 in
theorem actAlone_3 (K : Kn) (L : Lc) (kv lv : Value) (op : Int) (mod name : ByteArray) (a1 a2 a3 : Option Addr) (k1 k2 k3 c1 c2 c3 : Nat) (w : World) (hK : KnAt w kv K) (hL : LcAt w lv L) (hm : mod.size ≤ maxLen) (hn : name.size ≤ maxLen) (hop : op = 3) (f : Mg × Int) (hf : f = routM K L mod name k1) :
    Calls Tryz.prog 205 #[.agg #[kv, lv], .agg #[.int .i64 op, .string mod, .string name, .slice a1 k1 c1, .slice a2 k2 c2, .slice a3 k3 c3]] w fun e w' => e = .returned (.tuple #[.agg #[.int .i64 3, .int .i64 0, .int .i64 f.1.m, .int .i64 f.1.at_, .slice none 0 0, .slice none 0 0, .slice none 0 0], .int .i64 f.2]) ∧ Below w.heap.size w w' := by
  have HC := hid (routine_any K L kv lv mod name k1 (((w.alloc (.cells #[kv, lv] 195)).alloc (.cells #[.int .i64 op, .string mod, .string name, .slice a1 k1 c1, .slice a2 k2 c2, .slice a3 k3 c3] 176)).alloc (.cells #[.int .i64 0, .int .i64 0, .int .i64 0, .int .i64 0, .slice none 0 0, .slice none 0 0, .slice none 0 0] 109)) (hK.later (bl3 _ _ _ _)) (hL.later (bl3 _ _ _ _)) hm hn)
  have HB := hid (fun o p q => bl3 w o p q)
  clear hK hL hm hn
  rw [← hf] at HC
  clear hf
  obtain ⟨⟨kd, fn, fm, fa⟩, er⟩ := f
  simp only [Mg.val] at HC ⊢
  subst hop
  go_enter Tryz.func205, Tryz.ntmps205
  go_wp2_with fail
  refine HC.out.mono ?_
  rintro e w1 ⟨rfl, hb1⟩
  have HB1 := hid (thenB (HB.out _ _ _) hb1)
  have hz1 := hb1.size
  simp at hz1
  obtain ⟨q0, q1, q2⟩ := kept3 hb1
  obtain ⟨h0, h1, h2, h3, h4, h5, h6, h7⟩ := cellsOf7 q2
  have hlt : w.heap.size + 2 < w1.heap.size := by omega
  obtain ⟨x0, x1, x2, x3, x4, x5, x6⟩ := cellsOf6 q1
  have hlx : w.heap.size + 1 < w1.heap.size := by omega
  clear hb1 HC q0 q1 q2
  go_wp2_with fail
  refine bodyPost_ret (v := .tuple #[.agg #[.int .i64 3, .int .i64 0, .int .i64 fm, .int .i64 fa, .slice none 0 0, .slice none 0 0, .slice none 0 0], .int .i64 er]) (by simp [results, Tryz.results205, go_sem, h0, h1, h2, h3, h4, h5, h6, hlt]) rfl ⟨rfl, ?_⟩
  exact (bset7 HB1.out (by omega) _ _ _ _ _ _ _).alloc (by simp; omega) _
set_option maxRecDepth 100000 in
set_option maxHeartbeats 1600000 in
theorem actAlone_0 (kv lv : Value) (op : Int) (mod name : ByteArray) (a1 a2 a3 : Option Addr) (k1 k2 k3 c1 c2 c3 : Nat) (w : World) (h1 : op ≠ 1) (h2 : op ≠ 2) (h3 : op ≠ 3) :
    Calls Tryz.prog 205 #[.agg #[kv, lv], .agg #[.int .i64 op, .string mod, .string name, .slice a1 k1 c1, .slice a2 k2 c2, .slice a3 k3 c3]] w fun e w' => e = .returned (.tuple #[.agg #[.int .i64 op, .int .i64 0, .int .i64 0, .int .i64 0, .slice none 0 0, .slice none 0 0, .slice none 0 0], .int .i64 0]) ∧ Below w.heap.size w w' := by
  have HB := hid (fun o p q => bl3 w o p q)
  go_enter Tryz.func205, Tryz.ntmps205
  go_wp2_with fail
  refine bodyPost_ret (v := .tuple #[.agg #[.int .i64 op, .int .i64 0, .int .i64 0, .int .i64 0, .slice none 0 0, .slice none 0 0, .slice none 0 0], .int .i64 0]) (by simp [results, Tryz.results205, go_sem]) rfl ⟨rfl, HB.out _ _ _⟩
theorem actAlone_any (K : Kn) (L : Lc) (kv lv : Value) (x : St) (a1 a2 a3 : Option Addr) (c1 c2 c3 : Nat) (w : World) (hK : KnAt w kv K) (hL : LcAt w lv L) (hm : x.mod.size ≤ maxLen) (hn : x.name.size ≤ maxLen) :
    Calls Tryz.prog 205 #[.agg #[kv, lv], .agg #[.int .i64 x.op, .string x.mod, .string x.name, .slice a1 x.args.length c1, .slice a2 x.body.length c2, .slice a3 x.other.length c3]] w fun e w' => e = .returned (.tuple #[(acM K L x).act, .int .i64 (acM K L x).err]) ∧ Below w.heap.size w w' := by
  unfold acM
  by_cases h1 : x.op = 1
  · rw [if_pos h1]
    exact actAlone_1 K L kv lv x.op x.mod x.name a1 a2 a3 _ _ _ c1 c2 c3 w hK hL hm hn h1 _ rfl
  rw [if_neg h1]
  by_cases h2 : x.op = 2
  · rw [if_pos h2]
    exact actAlone_2 K L kv lv x.op x.mod x.name a1 a2 a3 _ _ _ c1 c2 c3 w hK hL hm hn h2 _ rfl
  rw [if_neg h2]
  by_cases h3 : x.op = 3
  · rw [if_pos h3]
    exact actAlone_3 K L kv lv x.op x.mod x.name a1 a2 a3 _ _ _ c1 c2 c3 w hK hL hm hn h3 _ rfl
  rw [if_neg h3]
  exact actAlone_0 kv lv x.op x.mod x.name a1 a2 a3 _ _ _ c1 c2 c3 w h1 h2 h3
end Go.Proofs.YtndkhgakfodldaaGreatDoor
