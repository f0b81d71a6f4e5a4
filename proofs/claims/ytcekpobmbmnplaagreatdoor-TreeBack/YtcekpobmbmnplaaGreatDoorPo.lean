/-
  A list of tokens is read as a module, or is none: the reader's panic is recovered.
-/
import Derived.Test.YtcekpobmbmnplaaGreatDoorPn
import Derived.Test.YtcekpobmbmnplaaGreatDoorPk
namespace Go.Proofs.YtcekpobmbmnplaaGreatDoor
open Go.RowKit Go.Shelf

/- What a list of tokens is: a module that takes them all, or none. -/
def pAll (ts : List Tk) : Option Mo := match pModule ts with
  | some (m, []) => some m
  | _ => none
abbrev moNone : Value := .agg #[.string ⟨#[]⟩, .slice none 0 0, .slice none 0 0, .slice none 0 0, .slice none 0 0]
/- The two results in memory: the module's five cells, and whether there is one. -/
structure Pw (w W : World) (cs : Array Value) (ok : Bool) : Prop where
  below : Below w.heap.size w W
  mb : W.heap[w.heap.size]? = some (.cells cs 27 (0, 0))
  ob : W.heap[w.heap.size + 1]? = some (.cells #[.bool ok] 4 (0, 0))
theorem Pw.ocell {w W : World} {cs : Array Value} {ok : Bool} (h : Pw w W cs ok) : W.cell? ⟨w.heap.size + 1, 0, none⟩ = some (.bool ok) ∧ W.frozen? ⟨w.heap.size + 1, 0, none⟩ = false := by
  refine ⟨by rw [Lib.cell_of_heap h.ob]; rfl, ?_⟩
  unfold World.frozen?
  simp only
  rw [h.ob]
  simp
theorem Pw.put {w W : World} {x0 x1 x2 x3 x4 : Value} {ok : Bool} (h : Pw w W #[x0, x1, x2, x3, x4] ok) (v0 v1 v2 v3 v4 : Value) : Pw w (set5 W w.heap.size v0 v1 v2 v3 v4) #[v0, v1, v2, v3, v4] ok := by
  refine ⟨((((h.below.setCell (p := ⟨w.heap.size, 0, none⟩) (Nat.le_refl _) _).setCell (p := ⟨w.heap.size, 1, none⟩) (Nat.le_refl _) _).setCell (p := ⟨w.heap.size, 2, none⟩) (Nat.le_refl _) _).setCell (p := ⟨w.heap.size, 3, none⟩) (Nat.le_refl _) _).setCell (p := ⟨w.heap.size, 4, none⟩) (Nat.le_refl _) _, ?_, ?_⟩
  · exact heap_set (heap_set (heap_set (heap_set (heap_set h.mb _) _) _) _) _
  · have e : w.heap.size + 1 ≠ w.heap.size := by omega
    exact (heap_set_ne (p := ⟨w.heap.size, 4, none⟩) e _).trans ((heap_set_ne (p := ⟨w.heap.size, 3, none⟩) e _).trans ((heap_set_ne (p := ⟨w.heap.size, 2, none⟩) e _).trans ((heap_set_ne (p := ⟨w.heap.size, 1, none⟩) e _).trans ((heap_set_ne (p := ⟨w.heap.size, 0, none⟩) e _).trans h.ob))))
theorem Pw.ok {w W : World} {cs : Array Value} {b : Bool} (h : Pw w W cs b) (b' : Bool) : Pw w (W.setCell ⟨w.heap.size + 1, 0, none⟩ (.bool b')) cs b' :=
  ⟨h.below.setCell (p := ⟨w.heap.size + 1, 0, none⟩) (Nat.le_succ _) _, (heap_set_ne (by show w.heap.size ≠ w.heap.size + 1; omega) _).trans h.mb, heap_set h.ob _⟩
theorem Pw.keeps {w W W' : World} {cs : Array Value} {b : Bool} {R : Nat} (h : Pw w W cs b) (hk : Keeps R W W') (hR : w.heap.size + 2 ≤ R) : Pw w W' cs b :=
  ⟨⟨hk.os.trans h.below.os, hk.tape.trans h.below.tape, hk.output.trans h.below.output, Nat.le_trans h.below.size hk.size, fun k hk1 => (hk.block k (Nat.lt_of_lt_of_le hk1 h.below.size) (by omega)).trans (h.below.block k hk1)⟩, (hk.block _ (lt_of_heap h.mb) (by omega)).trans h.mb, (hk.block _ (lt_of_heap h.ob) (by omega)).trans h.ob⟩
theorem Pw.resOf {w W : World} {x0 x1 x2 x3 x4 : Value} {ok : Bool} (h : Pw w W #[x0, x1, x2, x3, x4] ok) (t : Array Value) (h2 : t.getD 2 undef = .pointer (some ⟨w.heap.size, 0, none⟩)) (h3 : t.getD 3 undef = .pointer (some ⟨w.heap.size + 1, 0, none⟩)) :
    (results Tryz.f24 t).run Tryz.prog W = .ok (.tuple #[.agg #[x0, x1, x2, x3, x4], .bool ok]) W := by
  obtain ⟨c0, c1, c2, c3, c4, _⟩ := cellsOf5 h.mb
  obtain ⟨d0, _⟩ := h.ocell
  have h2' : t[2]?.getD undef = .pointer (some ⟨w.heap.size, 0, none⟩) := by simpa using h2
  have h3' : t[3]?.getD undef = .pointer (some ⟨w.heap.size + 1, 0, none⟩) := by simpa using h3
  simp [results, Tryz.results24, go_sem, h2', h3', c0, c1, c2, c3, c4, d0]
theorem pcatch (w W : World) (x0 x1 x2 x3 x4 : Value) (ok : Bool) (u : TypeId) (pv : Value) (older : List PanicEntry) (h : Pw w W #[x0, x1, x2, x3, x4] ok) :
    CallsD Tryz.prog 46 #[.pointer (some ⟨w.heap.size, 0, none⟩), .pointer (some ⟨w.heap.size + 1, 0, none⟩)] (.panicking ({ v := .iface u pv, recovered := false } :: older)) W fun e u' w' =>
      e = .returned (.tuple #[]) ∧ u' = .panicking ({ v := .iface u pv, recovered := true } :: older) ∧ Pw w w' #[.string ⟨#[]⟩, .slice none 0 0, .slice none 0 0, .slice none 0 0, .slice none 0 0] false := by
  have hfin := (h.put (.string ⟨#[]⟩) (.slice none 0 0) (.slice none 0 0) (.slice none 0 0) (.slice none 0 0)).ok false
  obtain ⟨c0, c1, c2, c3, c4, c5⟩ := cellsOf5 h.mb
  obtain ⟨d0, d1⟩ := (h.put (.string ⟨#[]⟩) (.slice none 0 0) (.slice none 0 0) (.slice none 0 0) (.slice none 0 0)).ocell
  refine callsD_of_wpS Tryz.func46 rfl fun c₀ cs hu => ?_
  apply wpS_seq
  apply wpS_region
  simp [wpOpsS, go_sem, recoverD, hu, Tryz.ntmps46, Exit.thenS]
  refine wpS_cond (t := true) (by simp [Act.eval, Array.replicate]) ?_
  simp only [if_true]
  apply wpS_region
  simp [wpOpsS, go_sem, c0, c1, c2, c3, c4, c5, d0, d1, bodyPostS, results, Tryz.results46]
  exact hfin
theorem pidle (p q : Addr) (w : World) :
    CallsD Tryz.prog 46 #[.pointer (some p), .pointer (some q)] .returning w fun e u' w' => e = .returned (.tuple #[]) ∧ u' = .returning ∧ w' = w := by
  refine callsD_of_wpS Tryz.func46 rfl fun c₀ cs hu => ?_
  apply wpS_seq
  apply wpS_region
  simp [wpOpsS, go_sem, recoverD, hu, Tryz.ntmps46, Exit.thenS]
  refine wpS_cond (t := false) (by simp [Act.eval, Array.replicate]) ?_
  simp only [Bool.false_eq_true, if_false]
  refine wpS_of_wp (wp_skip ?_)
  cases c₀
  simp_all [bodyPostS, results, Tryz.results46]
theorem Pw.caught {w W : World} {x0 x1 x2 x3 x4 : Value} {ok : Bool} (h : Pw w W #[x0, x1, x2, x3, x4] ok) {R : Ending → World → Prop} (t : Array Value)
    (h2 : t.getD 2 undef = .pointer (some ⟨w.heap.size, 0, none⟩)) (h3 : t.getD 3 undef = .pointer (some ⟨w.heap.size + 1, 0, none⟩))
    (hR : ∀ W', Below w.heap.size w W' → R (.returned (.tuple #[moNone, .bool false])) W') :
    Leaves Tryz.prog Tryz.f24 t R [{ target := Target.fn (Fn.func 46) #[Value.pointer (some ⟨w.heap.size, 0, none⟩), Value.pointer (some ⟨w.heap.size + 1, 0, none⟩)], args := #[] }] (.panicking errPanic) W := by
  refine leaves_cons (f := 46) (args := #[.pointer (some ⟨w.heap.size, 0, none⟩), .pointer (some ⟨w.heap.size + 1, 0, none⟩)]) (by simp) (by simp [go_sem]) ?_
  refine (pcatch w W x0 x1 x2 x3 x4 ok 29 (.int .i64 1) [] h).mono ?_
  rintro e u' w'' ⟨rfl, rfl, hp⟩
  exact ⟨_, hp.resOf t h2 h3, hR w'' hp.below⟩
set_option maxRecDepth 100000 in
set_option maxHeartbeats 1600000 in
theorem parsed_any (ts : List Tk) (a : Option Addr) (cap : Nat) (w : World) (ht : ToksAt w a ts) (hl : ts.length ≤ 4096) :
    Calls Tryz.prog 24 #[.slice a ts.length cap] w fun e w' => Below w.heap.size w w' ∧ ((pAll ts = none ∧ e = .returned (.tuple #[moNone, .bool false])) ∨ ∃ m v, pAll ts = some m ∧ e = .returned (.tuple #[v, .bool true]) ∧ MoRep (w.heap.size ≤ ·) m w' v) := by
  have HT := hid ht
  have hmf : ∀ (fn : Fn) (first cap : Array Value) (w : World), (Instr.makeFunc fn first cap).run Tryz.prog w = .ok (.func fn first cap) w := fun _ _ _ _ => rfl
  clear ht
  go_enter_defers Tryz.func24, Tryz.ntmps24
  go_wp2_with fail
  obtain ⟨W0, hW0⟩ : ∃ W0, W0 = ((w.alloc moZero).alloc (.cells #[.bool false] 4)).alloc (.cells #[.slice a ts.length cap, .int .i64 0] 88) := ⟨_, rfl⟩
  have hz0 : W0.heap.size = w.heap.size + 1 + 1 + 1 := by rw [hW0]; simp
  have HP0 : Hid (Pw w W0 #[.string ⟨#[]⟩, .slice none 0 0, .slice none 0 0, .slice none 0 0, .slice none 0 0] false) := by
    rw [hW0]
    refine ⟨((((Below.refl _ _).alloc (Nat.le_refl _) _).alloc (by simp) _).alloc (by simp; omega) _), heap_old (heap_old (heap_newP _ _)), heap_old ?_⟩
    have := heap_newP (w.alloc moZero) (.cells #[.bool false] 4)
    simpa using this
  have HR0 : Hid (Rd (w.heap.size + 1 + 1) a cap ts W0 ts) := by
    refine ⟨⟨0, Nat.zero_le _, rfl, ?_⟩, HT.out.later ?_, ?_, hl⟩
    · rw [hW0]
      have := heap_newP ((w.alloc moZero).alloc (.cells #[.bool false] 4)) (.cells #[.slice a ts.length cap, .int .i64 0] 88)
      simpa using this
    · exact HP0.out.below
    · rcases HT.out with h | ⟨b, off, rfl, h⟩
      · exact Or.inl h
      · refine Or.inr fun b' off' e => ?_
        cases e
        have := h.lt
        omega
  rw [← hW0]
  clear hW0
  refine (module_any _ cap a ts ts W0 HR0.out).mono ?_
  rintro e w1 ⟨KK, ⟨hn, rfl⟩ | ⟨m, l1, v, hn, rfl, ⟨a1, c1, a2, c2, a3, c3, a4, c4, rfl, hx0, hx1, hx2, hx3, hx4⟩, RD⟩⟩
  · have HN : Hid (pAll ts = none) := by show _ = _; unfold pAll; rw [hn]
    exact Pw.caught (HP0.out.keeps KK (by omega)) _ rfl rfl (fun W' hB => ⟨hB, Or.inl ⟨HN.out, rfl⟩⟩)
  have HP1 := hid (HP0.out.keeps KK (by omega))
  have hz1 := KK.size
  obtain ⟨k, hk, hlk, hRb⟩ := RD.idx
  have hRc0 : w1.cell? ⟨w.heap.size + 1 + 1, 0, none⟩ = some (.slice a ts.length cap) := by rw [Lib.cell_of_heap hRb]; rfl
  have hRc1 : w1.cell? ⟨w.heap.size + 1 + 1, 1, none⟩ = some (.int .i64 k) := by rw [Lib.cell_of_heap hRb]; rfl
  have HP2 := hid (HP1.out.put (.string m.name) (.slice a1 m.uses.length c1) (.slice a2 m.decls.length c2) (.slice a3 m.procs.length c3) (.slice a4 m.main.length c4))
  have HP3 := hid ((HP2.out.put (.string m.name) (.slice a1 m.uses.length c1) (.slice a2 m.decls.length c2) (.slice a3 m.procs.length c3) (.slice a4 m.main.length c4)).ok true)
  have HM3 : Hid (MoRep (w.heap.size ≤ ·) m ((set5 (set5 w1 w.heap.size (.string m.name) (.slice a1 m.uses.length c1) (.slice a2 m.decls.length c2) (.slice a3 m.procs.length c3) (.slice a4 m.main.length c4)) w.heap.size (.string m.name) (.slice a1 m.uses.length c1) (.slice a2 m.decls.length c2) (.slice a3 m.procs.length c3) (.slice a4 m.main.length c4)).setCell ⟨w.heap.size + 1, 0, none⟩ (.bool true)) (.agg #[.string m.name, .slice a1 m.uses.length c1, .slice a2 m.decls.length c2, .slice a3 m.procs.length c3, .slice a4 m.main.length c4])) := by
    have hm : Moves w1 (W0.heap.size ≤ ·) ((set5 (set5 w1 w.heap.size (.string m.name) (.slice a1 m.uses.length c1) (.slice a2 m.decls.length c2) (.slice a3 m.procs.length c3) (.slice a4 m.main.length c4)) w.heap.size (.string m.name) (.slice a1 m.uses.length c1) (.slice a2 m.decls.length c2) (.slice a3 m.procs.length c3) (.slice a4 m.main.length c4)).setCell ⟨w.heap.size + 1, 0, none⟩ (.bool true)) (w.heap.size ≤ ·) :=
      ((((Moves.refl w1 (W0.heap.size ≤ ·)).set5 (b := w.heap.size) (fun k _ hk => by omega) (.string m.name) (.slice a1 m.uses.length c1) (.slice a2 m.decls.length c2) (.slice a3 m.procs.length c3) (.slice a4 m.main.length c4)).set5 (b := w.heap.size) (fun k _ hk => by omega) (.string m.name) (.slice a1 m.uses.length c1) (.slice a2 m.decls.length c2) (.slice a3 m.procs.length c3) (.slice a4 m.main.length c4)).set (p := ⟨w.heap.size + 1, 0, none⟩) (fun k _ hk => by show k ≠ w.heap.size + 1; omega) (.bool true)).trans ⟨Nat.le_refl _, fun k _ hk => ⟨by omega, rfl⟩⟩
    exact ⟨a1, c1, a2, c2, a3, c3, a4, c4, rfl, hx0, hx1.moves hm, hx2.moves hm, hx3.moves hm, hx4.moves hm⟩
  obtain ⟨h0, h1, h2, h3, h4, h5⟩ := cellsOf5 HP1.out.mb
  obtain ⟨d0, d1⟩ := HP1.out.ocell
  have hlt1 : w.heap.size < w1.heap.size := by omega
  have hlt2 : w.heap.size + 1 < w1.heap.size := by omega
  have hlt3 : w.heap.size + 1 + 1 < w1.heap.size := by omega
  clear KK RD hx1 hx2 hx3 hx4 HP0 HR0 HT hRb
  by_cases hke : k < ts.length
  · have HN : Hid (pAll ts = none) := by
      show _ = _
      unfold pAll
      rw [hn, hlk, List.drop_eq_getElem_cons hke]
    clear hn
    go_wp2_with fail
    exact Pw.caught HP2.out _ rfl rfl (fun W' hB => ⟨hB, Or.inl ⟨HN.out, rfl⟩⟩)
  · have HN : Hid (pAll ts = some m) := by
      show _ = _
      unfold pAll
      rw [hn, hlk, List.drop_eq_nil_of_le (by omega)]
    have hkz : ¬ ((k : Int) < (ts.length : Int)) := by omega
    clear hn
    go_wp2_with fail
    refine leaves_cons (f := 46) (args := #[.pointer (some ⟨w.heap.size, 0, none⟩), .pointer (some ⟨w.heap.size + 1, 0, none⟩)]) (by simp) (by simp [go_sem]) ?_
    refine (pidle ⟨w.heap.size, 0, none⟩ ⟨w.heap.size + 1, 0, none⟩ _).mono ?_
    rintro e u' w'' ⟨rfl, rfl, rfl⟩
    exact ⟨_, HP3.out.resOf _ rfl rfl, HP3.out.below, Or.inr ⟨m, _, HN.out, rfl, HM3.out⟩⟩
end Go.Proofs.YtcekpobmbmnplaaGreatDoor
