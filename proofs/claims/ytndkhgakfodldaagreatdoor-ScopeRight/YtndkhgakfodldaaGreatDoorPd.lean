/-
  A list that grows while the reader goes on: its own row, and what its elements have beside it.
-/
import Derived.Test.YtndkhgakfodldaaGreatDoorPa
import Derived.Test.YtndkhgakfodldaaGreatDoorLeafc
import Derived.Deep.AppendLies
import Derived.Deep.RegionWith
namespace Go.Proofs.YtndkhgakfodldaaGreatDoor
open Go.RowKit

theorem Tryz.infoP80 : (Tryz.prog.info? 174).map (fun i => (i.zero, i.size, i.bytes)) = some (some (.agg #[.int .i64 0, .int .i64 0, .string ⟨#[]⟩, .string ⟨#[]⟩, .slice none 0 0]), 5, 72) := by kernel_rfl
theorem Tryz.infoP48 : (Tryz.prog.info? 176).map (fun i => (i.zero, i.size, i.bytes)) = some (some (.agg #[.int .i64 0, .string ⟨#[]⟩, .string ⟨#[]⟩, .slice none 0 0, .slice none 0 0, .slice none 0 0]), 6, 112) := by kernel_rfl
theorem Tryz.infoP56 : (Tryz.prog.info? 170).map (fun i => (i.zero, i.size, i.bytes)) = some (some (.agg #[.int .i64 0, .string ⟨#[]⟩, .bool false, .int .i64 0]), 4, 40) := by kernel_rfl
theorem Tryz.infoP60 : (Tryz.prog.info? 118).map (fun i => (i.zero, i.size, i.bytes)) = some (some (.agg #[.string ⟨#[]⟩, .bool false, .slice none 0 0, .slice none 0 0, .slice none 0 0]), 5, 96) := by kernel_rfl
theorem Tryz.infoP9 : (Tryz.prog.info? 9).map (fun i => (i.zero, i.size, i.bytes)) = some (some (.string ⟨#[]⟩), 1, 16) := by kernel_rfl

theorem own_keeps {R : Nat} {w w' : World} {base : Nat} {e : TypeId} {size : Nat} {v : Value} {n : Nat} {xs : List Value} (h : w.ownsRow base e size v n xs) (hk : Keeps R w w') (hR : R < base) : w'.ownsRow base e size v n xs := by
  refine ⟨h.1, ?_⟩
  rcases h.2 with h2 | ⟨g, cap, cur, h1, hb, hg, hr⟩
  · exact Or.inl h2
  · exact Or.inr ⟨g, cap, cur, h1, hb, (hk.block g (lt_of_heap hg) (by omega)).trans hg, hr⟩
/- elements of a row that grows: they lie beside it -/
def Beside (lo : Nat) (v : Value) (b : Nat) : Prop := lo ≤ b ∧ v.ownBlock ≠ some b
def Row (base : Nat) (e : TypeId) (size : Nat) (w : World) (v : Value) (n : Nat) (ds : List D) : Prop := ∃ xs, w.ownsRow base e size v n xs ∧ EVals w (Beside base v) ds xs
section
variable {base : Nat} {e : TypeId} {size : Nat} {w w' : World} {v : Value} {n R : Nat} {ds : List D}
theorem Row.nil (base : Nat) (e : TypeId) (size : Nat) (w : World) : Row base e size w (.slice none 0 0) 0 [] := ⟨[], World.ownsRow_nil _ _ _ _, .nil⟩
theorem Row.keeps (h : Row base e size w v n ds) (hk : Keeps R w w') (hR : R < base) : Row base e size w' v n ds := by
  obtain ⟨xs, h1, h2⟩ := h
  refine ⟨xs, own_keeps h1 hk hR, h2.moves ((Moves.refl w _).keeps hk ?_)⟩
  intro b _ hb; have := hb.1; omega
theorem Row.later (h : Row base e size w v n ds) (hb : Below w.heap.size w w') : Row base e size w' v n ds := by
  obtain ⟨xs, h1, h2⟩ := h
  exact ⟨xs, ownsRow_later h1 hb, h2.moves (Moves.of_below hb _)⟩
theorem Row.alloc (h : Row base e size w v n ds) (o : Obj) : Row base e size (w.alloc o) v n ds := h.later ((Below.refl _ _).alloc (Nat.le_refl _) o)
theorem Row.set (h : Row base e size w v n ds) {p : Addr} (hp : p.block < base) (u : Value) : Row base e size (w.setCell p u) v n ds := by
  obtain ⟨xs, h1, h2⟩ := h
  refine ⟨xs, ownsRow_setCell_below h1 hp u, h2.moves ((Moves.refl w _).set ?_ u)⟩
  intro b _ hb; have := hb.1; omega
theorem Row.slice (h : Row base e size w v n ds) : ∃ a cap, v = .slice a n cap ∧ EAt w (base ≤ ·) a n ds := by
  obtain ⟨xs, h1, h2⟩ := h
  have hm : Moves w (Beside base v) w (base ≤ ·) := ⟨Nat.le_refl _, fun b _ hb => ⟨hb.1, rfl⟩⟩
  rcases h1.2 with ⟨rfl, rfl⟩ | ⟨g, cap, cur, rfl, _⟩
  · exact ⟨none, 0, rfl, Or.inl rfl⟩
  · exact ⟨_, cap, rfl, EAt.of_own h1 (fun _ h => h) (h2.moves hm)⟩
theorem Row.lt (h : Row base e size w v n ds) : ∀ k, v.ownBlock = some k → base ≤ k ∧ k < w.heap.size := by
  obtain ⟨xs, h1, _⟩ := h; exact h1.lt
/- a row with its first element: a block of its own -/
theorem Row.one {A : Nat → Prop} {cs : Array Value} {g : Nat} (hg : w.heap[g]? = some (.cells cs e (0, 0))) (hb : base ≤ g) (hs : cs.size = size) (hd : EVals w A ds cs.toList) (hA : ∀ b, b < w.heap.size → A b → base ≤ b ∧ b ≠ g) :
    Row base e size w (.slice (some ⟨g, 0, none⟩) 1 1) 1 ds := by
  refine ⟨cs.toList, ⟨by simp [hs], Or.inr ⟨g, 1, cs, rfl, hb, hg, Nat.le_refl _, by unfold maxLen; omega, by omega, by rw [Nat.one_mul, ← hs]; exact List.take_of_length_le (by simp)⟩⟩, hd.moves ⟨Nat.le_refl _, fun b h1 h2 => ⟨⟨(hA b h1 h2).1, fun h => (hA b h1 h2).2 ?_⟩, rfl⟩⟩⟩
  simp only [Value.ownBlock] at h
  exact (Option.some.inj h).symm
theorem Row.first {A : Nat → Prop} {cs : Array Value} (hd : EVals w A ds cs.toList) (hA : ∀ b, b < w.heap.size → A b → base ≤ b) (hb : base ≤ w.heap.size) (hs : cs.size = size) :
    Row base e size (w.alloc (.cells cs e)) (.slice (some ⟨w.heap.size, 0, none⟩) 1 1) 1 ds := by
  refine Row.one (heap_newP w _) hb hs (A := fun b => A b ∧ b < w.heap.size) (hd.moves ⟨by simp, fun b h1 h2 => ⟨⟨h2, h1⟩, ((Below.refl w.heap.size w).alloc (Nat.le_refl _) (.cells cs e)).block b h1⟩⟩) ?_
  intro b _ h2
  exact ⟨hA b h2.2 h2.1, by omega⟩
end
theorem append_row {P : Program} {ops : Array Oper} {rest : List Oper} {o : Oper} {a : Act} {Q : Exit → Act → World → Prop} (hgd : o.guard = none) (s x : Operand) (t : TypeId)
    (ho : o.op = .call { callee := .builtin .append, args := #[s, x], argTypes := #[t, t] }) (base : Nat) (e : TypeId) (z : Value) (size bytes : Nat) (ht : P.underlying t = some (.slice e))
    (hi : (P.info? e).map (fun i => (i.zero, i.size, i.bytes)) = some (some z, size, bytes)) (hzs : z.cells.size = size) (hsz : 0 < size) (w : World) (v : Value) (n : Nat) (ds nd : List D) (hs : a.eval s = v) (hrow : Row base e size w v n ds)
    (cs : Array Value) (H : Nat) (hH : H = w.heap.size) (hx : a.eval x = .slice (some ⟨H, 0, none⟩) 1 1) (hcs : cs.size = size) (A : Nat → Prop) (hnd : EVals w A nd cs.toList) (hA : ∀ b, b < w.heap.size → A b → Beside base v b)
    (hn : n ≤ 5000) (hby : bytes ≤ 200) (hbase : base ≤ w.heap.size)
    (h : ∀ g cap w', Row base e size w' (.slice (some ⟨g, 0, none⟩) (n + 1) cap) (n + 1) (ds ++ nd) → Below base w w' → w.heap.size < w'.heap.size → wpList P ops Q rest (a.put o.dst (.slice (some ⟨g, 0, none⟩) (n + 1) cap)) w') :
    wpList P ops Q (o :: rest) a (w.alloc (.cells cs e)) := by
  obtain ⟨i0, hi, hz0, hz1, hz2⟩ := info_parts hi
  obtain ⟨xs, hown, hds⟩ := hrow
  have hsize : (w.alloc (.cells cs e)).heap.size = w.heap.size + 1 := by simp
  refine wpList_append_lies (w.alloc (.cells cs e)) hgd s x t ho base e i0 z size bytes ht hi hz0 hz1 hz2 hzs hsz v n xs hs (hown.alloc _) ⟨H, 0, none⟩ 1 1 cs.toList hx (by simp [hcs]) ?_ hnd.one (by omega) (by unfold maxLen; omega) ?_ (by omega) _ rfl ?_
  · intro j u hj
    subst hH
    have : (⟨w.heap.size, 0, none⟩ : Addr).add j = ⟨w.heap.size, j, none⟩ := by unfold Addr.add; split <;> simp_all
    rw [this, Lib.cell_of_heap (heap_newP w _)]
    simpa using hj
  · have : (n + 1) * bytes ≤ 5001 * 200 := Nat.mul_le_mul (by omega) hby
    omega
  · intro g cap w' hown' hgrow hat hlt
    have hbel : Below base w w' := ((Below.refl base w).alloc hbase _).grown hgrow (by omega) (fun k hk => (hown.lt k hk).1)
    have hgz := hgrow.size
    refine h g cap w' ⟨xs ++ cs.toList, hown', ?_⟩ hbel (by omega)
    have hmv : ∀ A' : Nat → Prop, (∀ b, b < w.heap.size → A' b → Beside base v b) → Moves w A' w' (Beside base (.slice (some ⟨g, 0, none⟩) (n + 1) cap)) := by
      intro A' hA'
      refine ⟨by omega, fun b hb ha => ⟨⟨(hA' b hb ha).1, fun hgb => ?_⟩, ?_⟩⟩
      · have hgb' : g = b := by simpa [Value.ownBlock] using hgb
        rcases hat with h1 | h1
        · exact (hA' b hb ha).2 (by rw [h1, hgb'])
        · omega
      · refine (hgrow.block b (by omega) (fun h => (hA' b hb ha).2 h.symm)).trans ?_
        exact ((Below.refl w.heap.size w).alloc (Nat.le_refl _) (.cells cs e)).block b hb
    exact (hds.moves (hmv _ (fun _ _ h => h))).append (hnd.moves (hmv A hA))
theorem step_append_row {P : Program} {ops : Array Oper} {o : Oper} {a : Act} {K : Act → World → Prop} {Q : Exit → Act → World → Prop} {E : Prop} (hgd : o.guard = none) (s x : Operand) (t : TypeId)
    (ho : o.op = .call { callee := .builtin .append, args := #[s, x], argTypes := #[t, t] }) (base : Nat) (e : TypeId) (z : Value) (size bytes : Nat) (ht : P.underlying t = some (.slice e))
    (hi : (P.info? e).map (fun i => (i.zero, i.size, i.bytes)) = some (some z, size, bytes)) (hzs : z.cells.size = size) (hsz : 0 < size) (w : World) (v : Value) (n : Nat) (ds nd : List D) (hs : a.eval s = v) (hrow : Row base e size w v n ds)
    (cs : Array Value) (H : Nat) (hH : H = w.heap.size) (hx : a.eval x = .slice (some ⟨H, 0, none⟩) 1 1) (hcs : cs.size = size) (A : Nat → Prop) (hnd : EVals w A nd cs.toList) (hA : ∀ b, b < w.heap.size → A b → Beside base v b)
    (hn : n ≤ 5000) (hby : bytes ≤ 200) (hbase : base ≤ w.heap.size)
    (h : ∀ g cap w', Row base e size w' (.slice (some ⟨g, 0, none⟩) (n + 1) cap) (n + 1) (ds ++ nd) → Below base w w' → w.heap.size < w'.heap.size → K (a.put o.dst (.slice (some ⟨g, 0, none⟩) (n + 1) cap)) w') :
    if Region.wanted o (yielded ops a.tmps) = true then Oper.wp P o a (w.alloc (.cells cs e)) K Q else E := by
  obtain ⟨i0, hi, hz0, hz1, hz2⟩ := info_parts hi
  obtain ⟨xs, hown, hds⟩ := hrow
  have hsize : (w.alloc (.cells cs e)).heap.size = w.heap.size + 1 := by simp
  refine step_append_lies (w.alloc (.cells cs e)) hgd s x t ho base e i0 z size bytes ht hi hz0 hz1 hz2 hzs hsz v n xs hs (hown.alloc _) ⟨H, 0, none⟩ 1 1 cs.toList hx (by simp [hcs]) ?_ hnd.one (by omega) (by unfold maxLen; omega) ?_ (by omega) _ rfl ?_
  · intro j u hj
    subst hH
    have : (⟨w.heap.size, 0, none⟩ : Addr).add j = ⟨w.heap.size, j, none⟩ := by unfold Addr.add; split <;> simp_all
    rw [this, Lib.cell_of_heap (heap_newP w _)]
    simpa using hj
  · have : (n + 1) * bytes ≤ 5001 * 200 := Nat.mul_le_mul (by omega) hby
    omega
  · intro g cap w' hown' hgrow hat hlt
    have hbel : Below base w w' := ((Below.refl base w).alloc hbase _).grown hgrow (by omega) (fun k hk => (hown.lt k hk).1)
    have hgz := hgrow.size
    refine h g cap w' ⟨xs ++ cs.toList, hown', ?_⟩ hbel (by omega)
    have hmv : ∀ A' : Nat → Prop, (∀ b, b < w.heap.size → A' b → Beside base v b) → Moves w A' w' (Beside base (.slice (some ⟨g, 0, none⟩) (n + 1) cap)) := by
      intro A' hA'
      refine ⟨by omega, fun b hb ha => ⟨⟨(hA' b hb ha).1, fun hgb => ?_⟩, ?_⟩⟩
      · have hgb' : g = b := by simpa [Value.ownBlock] using hgb
        rcases hat with h1 | h1
        · exact (hA' b hb ha).2 (by rw [h1, hgb'])
        · omega
      · refine (hgrow.block b (by omega) (fun h => (hA' b hb ha).2 h.symm)).trans ?_
        exact ((Below.refl w.heap.size w).alloc (Nat.le_refl _) (.cells cs e)).block b hb
    exact (hds.moves (hmv _ (fun _ _ h => h))).append (hnd.moves (hmv A hA))
section
variable {R cap : Nat} {a : Option Addr} {ts l l0 : List Tk} {w w0 w' : World}
theorem Rd.belowOf (h : Rd R a cap ts w l) (h0 : Rd R a cap ts w0 l0) (hb : Below w0.heap.size w w') : Rd R a cap ts w' l := by
  refine ⟨?_, ?_, h.ne, h.len⟩
  · obtain ⟨k, h1, h2, h3⟩ := h.idx
    exact ⟨k, h1, h2, (hb.block R h0.lt).trans h3⟩
  · rcases h0.toks with h4 | ⟨b, off, ha, h4⟩
    · exact Or.inl h4
    · rcases h.toks with h5 | ⟨b', off', ha', h5⟩
      · exact Or.inl h5
      · have eq : b' = b := by rw [ha] at ha'; injection ha' with ha'; injection ha' with e1 e2; exact e1.symm
        subst eq
        exact Or.inr ⟨b', off', ha', h5.below hb h4.lt⟩
theorem Keeps.belowOf (h : Keeps R w0 w) (hb : Below w0.heap.size w w') : Keeps R w0 w' :=
  ⟨hb.os.trans h.os, hb.tape.trans h.tape, hb.output.trans h.output, Nat.le_trans h.size hb.size, fun k h1 h2 => (hb.block k h1).trans (h.block k h1 h2)⟩
end

/- how many tokens are left: for loops -/
def leftN (R n : Nat) (w : World) : Nat := match w.cell? ⟨R, 1, none⟩ with | some (.int _ k) => n - k.toNat | _ => 0
theorem Rd.left {R cap : Nat} {a : Option Addr} {ts l : List Tk} {w : World} (h : Rd R a cap ts w l) : leftN R ts.length w = l.length := by
  obtain ⟨k, hk, rfl, hb⟩ := h.idx
  unfold leftN
  rw [Lib.cell_of_heap hb]
  simp

end Go.Proofs.YtndkhgakfodldaaGreatDoor

namespace Go.Proofs.YtndkhgakfodldaaGreatDoor
open Go.RowKit

def XRep (A : Nat → Prop) (xs : List Ex) (w : World) (v : Value) : Prop := ∃ a cap, v = .slice a xs.length cap ∧ EAt w A a xs.length (exsD xs)
structure ExC (R cap : Nat) (a : Option Addr) (ts : List Tk) (f : Nat) : Prop where
  expr : ∀ (l : List Tk) (w : World), Rd R a cap ts w l → 3 * l.length + 1 ≤ f → Calls Tryz.prog 283 #[.pointer (some ⟨R, 0, none⟩)] w (PEnd R a cap ts w (pExpr f l) (ExRep (w.heap.size ≤ ·)))
  pair : ∀ (l : List Tk) (w : World), Rd R a cap ts w l → 3 * l.length + 2 ≤ f → Calls Tryz.prog 293 #[.pointer (some ⟨R, 0, none⟩)] w (PEnd R a cap ts w (pPair f l) (ExRep (w.heap.size ≤ ·)))
  args : ∀ (l : List Tk) (w : World), Rd R a cap ts w l → 3 * l.length + 2 ≤ f → Calls Tryz.prog 295 #[.pointer (some ⟨R, 0, none⟩)] w (PEnd R a cap ts w (pArgs f l) (XRep (w.heap.size ≤ ·)))

set_option maxRecDepth 100000 in
set_option maxHeartbeats 1600000 in
theorem pair_step (R cap : Nat) (a : Option Addr) (ts : List Tk) (f : Nat) (IH : ExC R cap a ts f) (l : List Tk) (w : World) (h : Rd R a cap ts w l) (hf : 3 * l.length + 2 ≤ f + 1) :
    Calls Tryz.prog 293 #[.pointer (some ⟨R, 0, none⟩)] w (PEnd R a cap ts w (pPair (f + 1) l) (ExRep (w.heap.size ≤ ·))) := by
  have HI : Hid (ExC R cap a ts f) := IH
  have HR : Hid (Rd R a cap ts w l) := h
  have hRw := h.lt
  clear IH h
  go_enter Tryz.func293, Tryz.ntmps293
  go_wp2_with fail
  refine (HI.out.expr l _ (HR.out.alloc _) (by omega)).mono ?_
  rintro e w1 ⟨HK1, ⟨hn, rfl⟩ | ⟨x, l1, v, hn, rfl, ⟨a1, c1, rfl, hx1, hx2, hx3⟩, HR1⟩⟩
  · exact ⟨rfl, ((Keeps.refl R w).alloc _).trans HK1, Or.inl ⟨by unfold pPair; rw [hn], rfl⟩⟩
  have HN1 : Hid (pExpr f l = some (x, l1)) := hn
  have HX1 : Hid (x.mod.size ≤ maxLen ∧ x.name.size ≤ maxLen ∧ EAt w1 ((w.heap.size + 1) ≤ ·) a1 x.args.length (exsD x.args)) := ⟨hx1, hx2, by simpa using hx3⟩
  have HR1' : Hid (Rd R a cap ts w1 l1) := HR1
  have hlt1 := pExpr_lt _ _ _ _ hn
  have hz1 := HK1.size
  simp at hz1
  clear hn hx1 hx2 hx3 HR1
  have HK1' : Hid (Keeps R w w1) := ((Keeps.refl R w).alloc _).trans HK1
  have HB1 : Hid (w1.heap[w.heap.size]? = some (.cells #[.int .i64 0, .int .i64 0, .string ⟨#[]⟩, .string ⟨#[]⟩, .slice none 0 0] 174 (0, 0))) := (HK1.block w.heap.size (by simp) (by omega)).trans (heap_newP _ _)
  clear HK1
  go_wp2_with fail
  refine (split_ops _).mono ?_
  rintro e w2 ⟨b, rfl, hb1, hb2, hbc, HB2⟩
  have HK2 : Hid (Keeps R w1 w2) := ((Keeps.refl R w1).alloc _).later HB2
  have HR2 : Hid (Rd R a cap ts w2 l1) := (HR1'.out.alloc _).later HB2
  have HC2 : Hid (w2.heap[w1.heap.size]? = some (.cells #[.int .i64 x.op, .int .i64 x.n, .string x.mod, .string x.name, .slice a1 x.args.length c1] 174 (0, 0))) := (HB2.block w1.heap.size (by simp)).trans (heap_newP _ _)
  have hz2 := HB2.size
  simp at hz2 hb1
  clear HB2
  go_wp2_with fail
  refine (must_ops R cap b a ts l1 w2 HR2.out hb2 (by omega) hbc).mono ?_
  rintro e w3 ⟨HK3, ⟨ho, rfl⟩ | ⟨k, c, ho, hk9, hki, rfl, HR3⟩⟩
  · exact ⟨rfl, (HK1'.out.trans HK2.out).trans HK3, Or.inl ⟨by unfold pPair; rw [HN1.out]; simp only []; rw [ho], rfl⟩⟩
  have hz3 := HK3.size
  have HM : Hid (opOf l1 = some k) := ho
  have HKI : Hid (Lib.indexByte opSigns.data.toList c = k) := hki
  have hl3 := tail_lt (opOf_ne ho)
  have HK3' : Hid (Keeps R w w3) := (HK1'.out.trans HK2.out).trans HK3
  have HC3 : Hid (w3.heap[w1.heap.size]? = some (.cells #[.int .i64 x.op, .int .i64 x.n, .string x.mod, .string x.name, .slice a1 x.args.length c1] 174 (0, 0))) := (HK3.block w1.heap.size (by omega) (by omega)).trans HC2.out
  have HV3 : Hid (Moves w1 (w.heap.size + 1 ≤ ·) w3 (w.heap.size + 1 ≤ ·)) := ((Moves.refl w1 _).keeps HK2.out (by intro b; omega)).keeps HK3 (by intro b; omega)
  clear ho hbc HC2 HR2 hki
  have HR3' : Hid (Rd R a cap ts w3 l1.tail) := HR3
  clear HR3
  go_wp2_with fail
  refine (HI.out.expr l1.tail w3 HR3'.out (by omega)).mono ?_
  rintro e w4 ⟨HK4, ⟨hn, rfl⟩ | ⟨y, l4, v, hn, rfl, ⟨a4, c4, rfl, hy1, hy2, hy3⟩, HR4⟩⟩
  · exact ⟨rfl, HK3'.out.trans HK4, Or.inl ⟨by unfold pPair; rw [HN1.out]; simp only []; rw [HM.out]; simp only []; rw [hn], rfl⟩⟩
  have HN4 : Hid (pExpr f l1.tail = some (y, l4)) := hn
  have HX4 : Hid (y.mod.size ≤ maxLen ∧ y.name.size ≤ maxLen ∧ EAt w4 (w3.heap.size ≤ ·) a4 y.args.length (exsD y.args)) := ⟨hy1, hy2, hy3⟩
  have HR4' : Hid (Rd R a cap ts w4 l4) := HR4
  have HK4' : Hid (Keeps R w w4) := HK3'.out.trans HK4
  have HV4 : Hid (Moves w1 (w.heap.size + 1 ≤ ·) w4 (w.heap.size + 1 ≤ ·)) := HV3.out.keeps HK4 (by intro b; omega)
  have HC4 : Hid (w4.heap[w1.heap.size]? = some (.cells #[.int .i64 x.op, .int .i64 x.n, .string x.mod, .string x.name, .slice a1 x.args.length c1] 174 (0, 0))) := (HK4.block w1.heap.size (by omega) (by omega)).trans HC3.out
  have hz4 := HK4.size
  have HB4 : Hid (w4.heap[w.heap.size]? = some (.cells #[.int .i64 0, .int .i64 0, .string ⟨#[]⟩, .string ⟨#[]⟩, .slice none 0 0] 174 (0, 0))) := (HK4.block w.heap.size (by omega) (by omega)).trans ((HK3.block w.heap.size (by omega) (by omega)).trans ((HK2.out.block w.heap.size (by omega) (by omega)).trans HB1.out))
  clear hn hy1 hy2 hy3 HR4 HK4 HC3 HV3 HK3' HR3'
  go_wp2_with fail
  refine (must1 R cap _ a ts l4 tRp _ (by simp) (HR4'.out.alloc _) (by decide)).mono ?_
  rintro e w5 ⟨HK5, ⟨hs5, rfl⟩ | ⟨hs5, rfl, HR5⟩⟩
  · exact ⟨rfl, (HK4'.out.alloc _).trans HK5, Or.inl ⟨by unfold pPair; rw [HN1.out]; simp only []; rw [HM.out]; simp only []; rw [HN4.out]; simp only []; rw [if_neg (by simp [hs5])], rfl⟩⟩
  have HP : Hid (pPair (f + 1) l = some (.mk (7 + k) 0 ⟨#[]⟩ ⟨#[]⟩ [x, y], l4.tail)) := by show pPair (f + 1) l = _; unfold pPair; rw [HN1.out]; simp only []; rw [HM.out]; simp only []; rw [HN4.out]; simp only []; rw [if_pos hs5]
  have hz5 := HK5.size
  simp at hz5
  have HC5 : Hid (w5.heap[w1.heap.size]? = some (.cells #[.int .i64 x.op, .int .i64 x.n, .string x.mod, .string x.name, .slice a1 x.args.length c1] 174 (0, 0))) := (HK5.block w1.heap.size (by simp; omega) (by omega)).trans (heap_old HC4.out)
  have HD5 : Hid (w5.heap[w4.heap.size]? = some (.cells #[.int .i64 y.op, .int .i64 y.n, .string y.mod, .string y.name, .slice a4 y.args.length c4] 174 (0, 0))) := (HK5.block w4.heap.size (by simp) (by omega)).trans (heap_newP _ _)
  have HB5 : Hid (w5.heap[w.heap.size]? = some (.cells #[.int .i64 0, .int .i64 0, .string ⟨#[]⟩, .string ⟨#[]⟩, .slice none 0 0] 174 (0, 0))) := (HK5.block w.heap.size (by simp; omega) (by omega)).trans (heap_old HB4.out)
  obtain ⟨f0, f1, f2, f3, f4, f5⟩ := cellsOf5 HC5.out
  obtain ⟨g0, g1, g2, g3, g4, g5⟩ := cellsOf5 HD5.out
  obtain ⟨h0, h1, h2, h3, h4, h5⟩ := cellsOf5 HB5.out
  have HV5 : Hid (Moves w1 (w.heap.size + 1 ≤ ·) w5 (w.heap.size + 1 ≤ ·)) := (HV4.out.alloc _).keeps HK5 (by intro b; omega)
  have HW5 : Hid (Moves w4 (w3.heap.size ≤ ·) w5 (w3.heap.size ≤ ·)) := ((Moves.refl w4 _).alloc _).keeps HK5 (by intro b; omega)
  have HR5' : Hid (Rd R a cap ts w5 l4.tail) := HR5
  have HK5' : Hid (Keeps R w w5) := (HK4'.out.alloc _).trans HK5
  clear HK5 HR5 hs5 HC4 HV4 HR4'
  have HIX : Hid (∀ w : World, Calls Tryz.prog 299 #[.string opSigns, .string ⟨#[c]⟩] w fun e w' => e = .returned (.int .i64 k) ∧ w' = w) := fun w => by rw [← HKI.out]; exact Tryz.strings_Index_one opSigns c w
  have hq0 : w.heap.size < w5.heap.size := by omega
  have hq1 : w1.heap.size < w5.heap.size := by omega
  have hq4 : w4.heap.size < w5.heap.size := by omega
  clear HKI
  have hwr : IntKind.i64.wrap (7 + (k : Int)) = 7 + k := by simp only [IntKind.wrap, IntKind.bits, IntKind.signed]; simp; omega
  have FIN : ∀ W : World, W = (((((w5.setCell ⟨w.heap.size, 0, none⟩ (.int .i64 (7 + k))).setCell ⟨w.heap.size, 1, none⟩ (.int .i64 0)).setCell ⟨w.heap.size, 2, none⟩ (.string ⟨#[]⟩)).setCell ⟨w.heap.size, 3, none⟩ (.string ⟨#[]⟩)).setCell ⟨w.heap.size, 4, none⟩ (.slice (some ⟨w5.heap.size, 0, none⟩) 2 2)).alloc (.cells #[.int .i64 x.op, .int .i64 x.n, .string x.mod, .string x.name, .slice a1 x.args.length c1, .int .i64 y.op, .int .i64 y.n, .string y.mod, .string y.name, .slice a4 y.args.length c4] 174) →
      PEnd R a cap ts w (pPair (f + 1) l) (ExRep (w.heap.size ≤ ·)) (.returned (.agg #[.int .i64 (7 + k), .int .i64 0, .string ⟨#[]⟩, .string ⟨#[]⟩, .slice (some ⟨w5.heap.size, 0, none⟩) 2 2])) W.drew := by
    rintro W rfl
    refine ⟨Keeps.drew (Keeps.alloc (((((HK5'.out.set (Nat.le_refl _) _).set (Nat.le_refl _) _).set (Nat.le_refl _) _).set (Nat.le_refl _) _).set (Nat.le_refl _) _) _), Or.inr ⟨_, _, _, HP.out, rfl, ⟨some ⟨w5.heap.size, 0, none⟩, 2, rfl, Nat.zero_le _, Nat.zero_le _, ?_⟩, Rd.drew (Rd.alloc (((((HR5'.out.setAbove HR.out (Nat.le_refl _) _).setAbove HR.out (Nat.le_refl _) _).setAbove HR.out (Nat.le_refl _) _).setAbove HR.out (Nat.le_refl _) _).setAbove HR.out (Nat.le_refl _) _) _)⟩⟩
    refine ex_two (t := 174) (cap := c1) (dap := c4) HX1.out HX4.out (Moves.drew (Moves.alloc (Moves.set (Moves.set (Moves.set (Moves.set (Moves.set (HV5.out.to (by omega)) ?_ _) ?_ _) ?_ _) ?_ _) ?_ _) _)) (Moves.drew (Moves.alloc (Moves.set (Moves.set (Moves.set (Moves.set (Moves.set (HW5.out.to (by omega)) ?_ _) ?_ _) ?_ _) ?_ _) ?_ _) _)) ?_ (by omega)
    all_goals first | (intro b; simp only []; omega) | skip
    have e := heap_newP (((((w5.setCell ⟨w.heap.size, 0, none⟩ (.int .i64 (7 + k))).setCell ⟨w.heap.size, 1, none⟩ (.int .i64 0)).setCell ⟨w.heap.size, 2, none⟩ (.string ⟨#[]⟩)).setCell ⟨w.heap.size, 3, none⟩ (.string ⟨#[]⟩)).setCell ⟨w.heap.size, 4, none⟩ (.slice (some ⟨w5.heap.size, 0, none⟩) 2 2)) (.cells #[.int .i64 x.op, .int .i64 x.n, .string x.mod, .string x.name, .slice a1 x.args.length c1, .int .i64 y.op, .int .i64 y.n, .string y.mod, .string y.name, .slice a4 y.args.length c4] 174)
    simp only [World.size_setCell] at e
    exact e
  have HFIN : Hid _ := FIN
  clear FIN
  go_wp2_with fail
  go_region_with (go_at_call 299; refine (HIX.out _).mono ?_; rintro e w' ⟨rfl, rfl⟩)
  all_goals go_wp2_with fail
  all_goals refine bodyPost_ret (v := .agg #[.int .i64 (7 + k), .int .i64 0, .string ⟨#[]⟩, .string ⟨#[]⟩, .slice (some ⟨w5.heap.size, 0, none⟩) 2 2]) (by simp [results, Tryz.results293, go_sem, h0, h1, h2, h3, h4, hq0]) rfl ?_
  all_goals exact HFIN.out _ rfl

theorem mustB2 (l : List Tk) (t u : ByteArray) : mustB l [t, u] = if skB l t then some t else if skB l u then some u else none := by
  unfold mustB; rw [List.find?_cons, List.find?_cons]; cases skB l t <;> cases skB l u <;> rfl
theorem must2 (R cap n : Nat) (a : Option Addr) (ts l : List Tk) (t u : ByteArray) (w : World) (hn : n = w.heap.size) (h : Rd R a cap ts w l) (ht : 0 < t.size) (hu : 0 < u.size) :
    Calls Tryz.prog 195 #[.pointer (some ⟨R, 0, none⟩), .slice (some ⟨n, 0, none⟩) 2 2] (w.alloc (.cells #[.string t, .string u] 9)) fun e w' => Keeps R w w' ∧ ((skB l t = false ∧ skB l u = false ∧ e = .panicked errPanic) ∨ (skB l t = true ∧ e = .returned (.string t) ∧ Rd R a cap ts w' l.tail) ∨ (skB l t = false ∧ skB l u = true ∧ e = .returned (.string u) ∧ Rd R a cap ts w' l.tail)) := by
  have hlt := h.lt
  subst hn
  refine (must_any R cap w.heap.size 2 a ts l [t, u] _ (h.alloc _) (by simp) (by omega) (by simp) (fun i hi => ?_) (fun i hi => ?_)).mono ?_
  · obtain rfl | rfl : i = 0 ∨ i = 1 := by simp at hi; omega
    all_goals simp
  · obtain rfl | rfl : i = 0 ∨ i = 1 := by simp at hi; omega
    · exact ht
    · exact hu
  · rintro e w' ⟨hk, hr⟩
    refine ⟨((Keeps.refl R w).alloc _).trans hk, ?_⟩
    rw [mustB2] at hr
    cases hs : skB l t <;> cases hs2 : skB l u <;> rw [hs, hs2] at hr <;> simp only [Bool.false_eq_true, if_false, if_true, Option.map_none, Option.map_some] at hr
    · rcases hr with ⟨_, rfl⟩ | ⟨x, l', v, hr, _⟩
      · exact Or.inl ⟨rfl, rfl, rfl⟩
      · cases hr
    · rcases hr with ⟨hr, _⟩ | ⟨x, l', v, hr, rfl, rfl, hR⟩
      · cases hr
      · obtain ⟨rfl, rfl⟩ := Prod.mk.inj (Option.some.inj hr)
        exact Or.inr (Or.inr ⟨rfl, rfl, rfl, hR⟩)
    all_goals
      rcases hr with ⟨hr, _⟩ | ⟨x, l', v, hr, rfl, rfl, hR⟩
      · cases hr
      · obtain ⟨rfl, rfl⟩ := Prod.mk.inj (Option.some.inj hr)
        exact Or.inr (Or.inl ⟨rfl, rfl, hR⟩)

set_option maxRecDepth 100000 in
set_option maxHeartbeats 1600000 in
theorem args_step (R cap : Nat) (a : Option Addr) (ts : List Tk) (f : Nat) (IH : ∀ g, g ≤ f → ExC R cap a ts g) (l : List Tk) (w : World) (h : Rd R a cap ts w l) (hf : 3 * l.length + 2 ≤ f + 1) :
    Calls Tryz.prog 295 #[.pointer (some ⟨R, 0, none⟩)] w (PEnd R a cap ts w (pArgs (f + 1) l) (XRep (w.heap.size ≤ ·))) := by
  have HI : Hid (∀ g, g ≤ f → ExC R cap a ts g) := IH
  have HR : Hid (Rd R a cap ts w l) := h
  have hRw := h.lt
  have hlts : l.length ≤ 4096 := by
    obtain ⟨k, _, rfl, _⟩ := h.idx
    have := h.len
    rw [List.length_drop]; omega
  clear IH h
  go_enter Tryz.func295, Tryz.ntmps295
  go_wp2_with fail
  by_cases hs : skB l tRp = true
  · refine (skip_yes R cap a ts l tRp w (by decide) HR.out hs).mono ?_
    rintro e w1 ⟨rfl, HR1, HK1⟩
    go_wp2_with fail
    go_ret
    exact ⟨HK1, Or.inr ⟨[], l.tail, _, by unfold pArgs; rw [if_pos hs], rfl, ⟨none, 0, rfl, Or.inl rfl⟩, HR1⟩⟩
  have hs' : skB l tRp = false := by simpa using hs
  refine (skip_no R cap a ts l tRp w HR.out hs').mono ?_
  rintro e w1 ⟨rfl, HR1, HK1⟩
  have HR1' : Hid (Rd R a cap ts w1 l) := HR1
  have HK1' : Hid (Keeps R w w1) := HK1
  have hz1 := HK1.size
  clear HR1 HK1
  go_wp2_with fail
  refine ((HI.out f (Nat.le_refl _)).expr l w1 HR1'.out (by omega)).mono ?_
  rintro e w2 ⟨HK2, ⟨hn, rfl⟩ | ⟨x, l2, v, hn, rfl, ⟨a2, c2, rfl, hx1, hx2, hx3⟩, HR2⟩⟩
  · exact ⟨rfl, HK1'.out.trans HK2, Or.inl ⟨by unfold pArgs; rw [if_neg hs, hn], rfl⟩⟩
  have hl2 := pExpr_lt _ _ _ _ hn
  have HP : Hid (pArgs (f + 1) l = pMore f [x] l2) := by show pArgs (f + 1) l = _; unfold pArgs; rw [if_neg hs, hn]
  have HR2' : Hid (Rd R a cap ts w2 l2) := HR2
  have HK2' : Hid (Keeps R w w2) := HK1'.out.trans HK2
  have HX : Hid (EVals w2 (w1.heap.size ≤ ·) x.ds (exCells x a2 c2)) := ex_dvals hx1 hx2 hx3
  have hz2 := HK2.size
  clear hn HR2 HK2 hx1 hx2 hx3 hs hs' HR1' HK1'
  go_wp2_with fail
  go_loopw [3] (fun v wr => ∃ (g : Nat) (acc : List Ex) (l' : List Tk), g ≤ f ∧ pArgs (f + 1) l = pMore g acc l' ∧ 3 * l'.length + 3 ≤ g ∧ acc.length + l'.length ≤ l.length ∧ Row w.heap.size 174 5 wr v acc.length (exsD acc) ∧ Rd R a cap ts wr l' ∧ Keeps R w wr) (fun _ wr => leftN R ts.length wr)
  case atStart =>
    refine ⟨f, [x], l2, Nat.le_refl _, HP.out, by omega, by simp; omega, ?_, HR2'.out.alloc _, HK2'.out.alloc _⟩
    rw [exsD_one]
    exact Row.first (cs := #[.int .i64 x.op, .int .i64 x.n, .string x.mod, .string x.name, .slice a2 x.args.length c2]) HX.out (fun b _ h => by omega) (by omega) rfl
  case round =>
    obtain ⟨g, acc, l', hg, hpm, hlen, hacc, hrow, hrd, hke⟩ := hrel
    have HG : Hid (pArgs (f + 1) l = pMore g acc l') := hpm
    have HO : Hid (Row w.heap.size 174 5 wr u3 acc.length (exsD acc)) := hrow
    have HD : Hid (Rd R a cap ts wr l') := hrd
    have HE : Hid (Keeps R w wr) := hke
    have hzr := hke.size
    obtain ⟨g, rfl⟩ : ∃ g', g = g' + 1 := ⟨g - 1, by omega⟩
    clear hpm hrow hrd hke HP HX
    go_wp2_with fail
    refine (must2 R cap _ a ts l' tCom tRp _ (by simp) HD.out (by decide) (by decide)).mono ?_
    rintro e w3 ⟨HK3, ⟨h1, h2, rfl⟩ | ⟨h1, rfl, HR3⟩ | ⟨h1, h2, rfl, HR3⟩⟩
    · exact ⟨rfl, HE.out.trans HK3, Or.inl ⟨by rw [HG.out]; unfold pMore; rw [if_neg (by simp [h1]), if_neg (by simp [h2])], rfl⟩⟩
    · have hl3 := skB_lt (by decide) h1
      have hz3 := HK3.size
      go_wp2_with fail
      refine ((HI.out g (by omega)).expr l'.tail w3 HR3 (by omega)).mono ?_
      rintro e w4 ⟨HK4, ⟨hn, rfl⟩ | ⟨y, l4, v, hn, rfl, ⟨a4, c4, rfl, hx1, hx2, hx3⟩, HR4⟩⟩
      · exact ⟨rfl, (HE.out.trans HK3).trans HK4, Or.inl ⟨by rw [HG.out]; unfold pMore; rw [if_pos h1, hn], rfl⟩⟩
      have hl4 := pExpr_lt _ _ _ _ hn
      have HP : Hid (pArgs (f + 1) l = pMore g (acc ++ [y]) l4) := by show pArgs (f + 1) l = _; rw [HG.out]; unfold pMore; rw [if_pos h1, hn]; cases g <;> rfl
      have HX4 : Hid (EVals w4 (w3.heap.size ≤ ·) y.ds (exCells y a4 c4)) := ex_dvals hx1 hx2 hx3
      have HR4' : Hid (Rd R a cap ts w4 l4) := HR4
      have HK4' : Hid (Keeps R w w4) := (HE.out.trans HK3).trans HK4
      have HO4 : Hid (Row w.heap.size 174 5 w4 u3 acc.length (exsD acc)) := (HO.out.keeps HK3 hRw).keeps HK4 hRw
      have hz4 := HK4.size
      have HL : Hid (∀ k, u3.ownBlock = some k → k < w3.heap.size) := fun k hk => ((HO.out.keeps HK3 hRw).lt k hk).2
      have hle := HD.out.left
      clear hn HR3 HR4 HK3 HK4 hx1 hx2 hx3
      go_wp2_with (at_builtin; refine append_row rfl (.tmp 13) (.tmp 16) 172 rfl w.heap.size 174 _ 5 72 Tryz.underlying172 Tryz.infoP80 rfl (by decide) w4 u3 acc.length (exsD acc) y.ds rfl HO4.out _ _ rfl rfl rfl (w3.heap.size ≤ ·) HX4.out ?_ (by omega) (by decide) (by omega) ?_)
      · intro b _ hb
        exact ⟨by omega, fun h => by have := HL.out b h; omega⟩
      · intro g5 c5 w5 HO5 HB5 hz5
        have HO5' : Hid (Row w.heap.size 174 5 w5 (.slice (some ⟨g5, 0, none⟩) (acc.length + 1) c5) (acc.length + 1) (exsD acc ++ y.ds)) := HO5
        have HR5 : Hid (Rd R a cap ts w5 l4) := HR4'.out.belowOf HR.out HB5
        have HK5 : Hid (Keeps R w w5) := HK4'.out.belowOf HB5
        have hl5 := HR5.out.left
        clear HO5 HB5 HO4 HR4' HK4' HX4
        go_wp2_with fail
        go_roundw
        case rel => exact ⟨g, acc ++ [y], l4, by omega, HP.out, by omega, by simp; omega, by rw [exsD_append, exsD_one, List.length_append]; exact HO5'.out, HR5.out, HK5.out⟩
        case measure => rw [hl5, hle]; omega
    · have HP : Hid (pArgs (f + 1) l = some (acc, l'.tail)) := by show pArgs (f + 1) l = _; rw [HG.out]; unfold pMore; rw [if_neg (by simp [h1]), if_pos h2]
      have HO3 : Hid (Row w.heap.size 174 5 w3 u3 acc.length (exsD acc)) := HO.out.keeps HK3 hRw
      go_wp2_with fail
      go_ret
      exact ⟨HE.out.trans HK3, Or.inr ⟨acc, l'.tail, _, HP.out, rfl, HO3.out.slice, HR3⟩⟩

end Go.Proofs.YtndkhgakfodldaaGreatDoor
