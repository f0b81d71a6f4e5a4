/-
  The document's answer to Lex is the tokens of the text, piece by piece, or its error.
-/
import Derived.Test.YtndkhgakfodldaaGreatDoorLexp
import Derived.Test.YtndkhgakfodldaaGreatDoorPb
import Derived.Deep.AppendLies
import Derived.Test.YtndkhgakfodldaaGreatDoorUb
namespace Go.Proofs.YtndkhgakfodldaaGreatDoor
open Go.RowKit

theorem Tryz.infoTok : (Tryz.prog.info? 184).map (fun i => (i.zero, i.size, i.bytes)) = some (some (.agg #[.int .i64 0, .int .i64 0, .string ⟨#[]⟩]), 3, 32) := by kernel_rfl

theorem extract_size (s : ByteArray) (a n : Nat) (h : a + n ≤ s.size) : (s.extract a (a + n)).size = n := by
  rw [ByteArray.size_extract]; omega

theorem ownsRow_later {W W' : World} {B : Nat} {e : TypeId} {size : Nat} {v : Value} {n : Nat} {xs : List Value} (h : W.ownsRow B e size v n xs) (hb : Below W.heap.size W W') : W'.ownsRow B e size v n xs := by
  obtain ⟨h1, h2⟩ := h
  refine ⟨h1, ?_⟩
  rcases h2 with h2 | ⟨g, cap, cur, hv, hg, hc, hrest⟩
  · exact Or.inl h2
  · exact Or.inr ⟨g, cap, cur, hv, hg, (hb.block g (lt_of_heap hc)).trans hc, hrest⟩
theorem three_new (w : World) (x y z : Value) (t : TypeId) : ∀ j u, [x, y, z][j]? = some u → (w.alloc (.cells #[x, y, z] t)).cell? ((⟨w.heap.size, 0, none⟩ : Addr).add j) = some u := by
  intro j u hj
  have hh : (w.alloc (.cells #[x, y, z] t)).heap[w.heap.size]? = some (.cells #[x, y, z] t) := _root_.Go.heap_alloc_new w _
  have : (⟨w.heap.size, 0, none⟩ : Addr).add j = ⟨w.heap.size, j, none⟩ := by simp [Addr.add]; exact fun h => h.symm
  rw [this, Lib.cell_of_heap hh, ← hj]
  simp
theorem three_one (t : Tk) : ∀ u ∈ tkCells t, u.oneCell' = true := by
  intro u hu
  simp only [tkCells, List.mem_cons, List.not_mem_nil, or_false] at hu
  rcases hu with h | h | h
  all_goals subst h; rfl
end Go.Proofs.YtndkhgakfodldaaGreatDoor

namespace Go.Proofs.YtndkhgakfodldaaGreatDoor
open Go.RowKit

theorem Tryz.infoP80 : (Tryz.prog.info? 174).map (fun i => (i.zero, i.size, i.bytes)) = some (some (.agg #[.int .i64 0, .int .i64 0, .string ⟨#[]⟩, .string ⟨#[]⟩, .slice none 0 0]), 5, 72) := by kernel_rfl
theorem Tryz.infoP48 : (Tryz.prog.info? 176).map (fun i => (i.zero, i.size, i.bytes)) = some (some (.agg #[.int .i64 0, .string ⟨#[]⟩, .string ⟨#[]⟩, .slice none 0 0, .slice none 0 0, .slice none 0 0]), 6, 112) := by kernel_rfl
theorem Tryz.infoP56 : (Tryz.prog.info? 170).map (fun i => (i.zero, i.size, i.bytes)) = some (some (.agg #[.int .i64 0, .string ⟨#[]⟩, .bool false, .int .i64 0]), 4, 40) := by kernel_rfl
theorem Tryz.infoP60 : (Tryz.prog.info? 118).map (fun i => (i.zero, i.size, i.bytes)) = some (some (.agg #[.string ⟨#[]⟩, .bool false, .slice none 0 0, .slice none 0 0, .slice none 0 0]), 5, 96) := by kernel_rfl
theorem Tryz.infoP9 : (Tryz.prog.info? 9).map (fun i => (i.zero, i.size, i.bytes)) = some (some (.string ⟨#[]⟩), 1, 16) := by kernel_rfl

theorem own_keeps {R : Nat} {w w' : World} {base : Nat} {e : TypeId} {size : Nat} {v : Value} {n : Nat} {xs : List Value} (h : w.ownsRow base e size v n xs) (hk : Keeps R w w') (hR : R < base) : w'.ownsRow base e size v n xs := by
  refine ⟨h.1, ?_⟩
  rcases h.2 with h2 | ⟨g, cap, cur, h1, hb, hg, hr⟩
  · exact Or.inl h2
  · exact Or.inr ⟨g, cap, cur, h1, hb, (hk.block g (lt_of_heap hg) (by omega)).trans hg, hr⟩
/- elements of a row that grows: they lie beside it -/
def Beside (lo : Nat) (v : Value) (b : Nat) : Prop := lo ≤ b ∧ v.ownBlock ≠ some b
def Row (base : Nat) (e : TypeId) (size : Nat) (w : World) (v : Value) (n : Nat) (ds : List D) : Prop := ∃ xs, w.ownsRow base e size v n xs ∧ EVals w (Beside base v) ds xs
section
variable {base : Nat} {e : TypeId} {size : Nat} {w w' : World} {v : Value} {n R : Nat} {ds : List D}
theorem Row.nil (base : Nat) (e : TypeId) (size : Nat) (w : World) : Row base e size w (.slice none 0 0) 0 [] := ⟨[], World.ownsRow_nil _ _ _ _, .nil⟩
theorem Row.keeps (h : Row base e size w v n ds) (hk : Keeps R w w') (hR : R < base) : Row base e size w' v n ds := by
  obtain ⟨xs, h1, h2⟩ := h
  refine ⟨xs, own_keeps h1 hk hR, h2.moves ((Moves.refl w _).keeps hk ?_)⟩
  intro b _ hb; have := hb.1; omega
theorem Row.later (h : Row base e size w v n ds) (hb : Below w.heap.size w w') : Row base e size w' v n ds := by
  obtain ⟨xs, h1, h2⟩ := h
  exact ⟨xs, ownsRow_later h1 hb, h2.moves (Moves.of_below hb _)⟩
theorem Row.alloc (h : Row base e size w v n ds) (o : Obj) : Row base e size (w.alloc o) v n ds := h.later ((Below.refl _ _).alloc (Nat.le_refl _) o)
theorem Row.set (h : Row base e size w v n ds) {p : Addr} (hp : p.block < base) (u : Value) : Row base e size (w.setCell p u) v n ds := by
  obtain ⟨xs, h1, h2⟩ := h
  refine ⟨xs, ownsRow_setCell_below h1 hp u, h2.moves ((Moves.refl w _).set ?_ u)⟩
  intro b _ hb; have := hb.1; omega
theorem Row.slice (h : Row base e size w v n ds) : ∃ a cap, v = .slice a n cap ∧ EAt w (base ≤ ·) a n ds := by
  obtain ⟨xs, h1, h2⟩ := h
  have hm : Moves w (Beside base v) w (base ≤ ·) := ⟨Nat.le_refl _, fun b _ hb => ⟨hb.1, rfl⟩⟩
  rcases h1.2 with ⟨rfl, rfl⟩ | ⟨g, cap, cur, rfl, _⟩
  · exact ⟨none, 0, rfl, Or.inl rfl⟩
  · exact ⟨_, cap, rfl, EAt.of_own h1 (fun _ h => h) (h2.moves hm)⟩
theorem Row.lt (h : Row base e size w v n ds) : ∀ k, v.ownBlock = some k → base ≤ k ∧ k < w.heap.size := by
  obtain ⟨xs, h1, _⟩ := h; exact h1.lt
/- a row with its first element: a block of its own -/
theorem Row.one {A : Nat → Prop} {cs : Array Value} {g : Nat} (hg : w.heap[g]? = some (.cells cs e (0, 0))) (hb : base ≤ g) (hs : cs.size = size) (hd : EVals w A ds cs.toList) (hA : ∀ b, b < w.heap.size → A b → base ≤ b ∧ b ≠ g) :
    Row base e size w (.slice (some ⟨g, 0, none⟩) 1 1) 1 ds := by
  refine ⟨cs.toList, ⟨by simp [hs], Or.inr ⟨g, 1, cs, rfl, hb, hg, Nat.le_refl _, by unfold maxLen; omega, by omega, by rw [Nat.one_mul, ← hs]; exact List.take_of_length_le (by simp)⟩⟩, hd.moves ⟨Nat.le_refl _, fun b h1 h2 => ⟨⟨(hA b h1 h2).1, fun h => (hA b h1 h2).2 ?_⟩, rfl⟩⟩⟩
  simp only [Value.ownBlock] at h
  exact (Option.some.inj h).symm
theorem Row.first {A : Nat → Prop} {cs : Array Value} (hd : EVals w A ds cs.toList) (hA : ∀ b, b < w.heap.size → A b → base ≤ b) (hb : base ≤ w.heap.size) (hs : cs.size = size) :
    Row base e size (w.alloc (.cells cs e)) (.slice (some ⟨w.heap.size, 0, none⟩) 1 1) 1 ds := by
  refine Row.one (heap_newP w _) hb hs (A := fun b => A b ∧ b < w.heap.size) (hd.moves ⟨by simp, fun b h1 h2 => ⟨⟨h2, h1⟩, ((Below.refl w.heap.size w).alloc (Nat.le_refl _) (.cells cs e)).block b h1⟩⟩) ?_
  intro b _ h2
  exact ⟨hA b h2.2 h2.1, by omega⟩
end
theorem append_row {P : Program} {ops : Array Oper} {rest : List Oper} {o : Oper} {a : Act} {Q : Exit → Act → World → Prop} (hgd : o.guard = none) (s x : Operand) (t : TypeId)
    (ho : o.op = .call { callee := .builtin .append, args := #[s, x], argTypes := #[t, t] }) (base : Nat) (e : TypeId) (z : Value) (size bytes : Nat) (ht : P.underlying t = some (.slice e))
    (hi : (P.info? e).map (fun i => (i.zero, i.size, i.bytes)) = some (some z, size, bytes)) (hzs : z.cells.size = size) (hsz : 0 < size) (w : World) (v : Value) (n : Nat) (ds nd : List D) (hs : a.eval s = v) (hrow : Row base e size w v n ds)
    (cs : Array Value) (H : Nat) (hH : H = w.heap.size) (hx : a.eval x = .slice (some ⟨H, 0, none⟩) 1 1) (hcs : cs.size = size) (A : Nat → Prop) (hnd : EVals w A nd cs.toList) (hA : ∀ b, b < w.heap.size → A b → Beside base v b)
    (hn : n ≤ 5000) (hby : bytes ≤ 200) (hbase : base ≤ w.heap.size)
    (h : ∀ g cap w', Row base e size w' (.slice (some ⟨g, 0, none⟩) (n + 1) cap) (n + 1) (ds ++ nd) → Below base w w' → w.heap.size < w'.heap.size → wpList P ops Q rest (a.put o.dst (.slice (some ⟨g, 0, none⟩) (n + 1) cap)) w') :
    wpList P ops Q (o :: rest) a (w.alloc (.cells cs e)) := by
  obtain ⟨i0, hi, hz0, hz1, hz2⟩ := info_parts hi
  obtain ⟨xs, hown, hds⟩ := hrow
  have hsize : (w.alloc (.cells cs e)).heap.size = w.heap.size + 1 := by simp
  refine wpList_append_lies (w.alloc (.cells cs e)) hgd s x t ho base e i0 z size bytes ht hi hz0 hz1 hz2 hzs hsz v n xs hs (hown.alloc _) ⟨H, 0, none⟩ 1 1 cs.toList hx (by simp [hcs]) ?_ hnd.one (by omega) (by unfold maxLen; omega) ?_ (by omega) _ rfl ?_
  · intro j u hj
    subst hH
    have : (⟨w.heap.size, 0, none⟩ : Addr).add j = ⟨w.heap.size, j, none⟩ := by unfold Addr.add; split <;> simp_all
    rw [this, Lib.cell_of_heap (heap_newP w _)]
    simpa using hj
  · have : (n + 1) * bytes ≤ 5001 * 200 := Nat.mul_le_mul (by omega) hby
    omega
  · intro g cap w' hown' hgrow hat hlt
    have hbel : Below base w w' := ((Below.refl base w).alloc hbase _).grown hgrow (by omega) (fun k hk => (hown.lt k hk).1)
    have hgz := hgrow.size
    refine h g cap w' ⟨xs ++ cs.toList, hown', ?_⟩ hbel (by omega)
    have hmv : ∀ A' : Nat → Prop, (∀ b, b < w.heap.size → A' b → Beside base v b) → Moves w A' w' (Beside base (.slice (some ⟨g, 0, none⟩) (n + 1) cap)) := by
      intro A' hA'
      refine ⟨by omega, fun b hb ha => ⟨⟨(hA' b hb ha).1, fun hgb => ?_⟩, ?_⟩⟩
      · have hgb' : g = b := by simpa [Value.ownBlock] using hgb
        rcases hat with h1 | h1
        · exact (hA' b hb ha).2 (by rw [h1, hgb'])
        · omega
      · refine (hgrow.block b (by omega) (fun h => (hA' b hb ha).2 h.symm)).trans ?_
        exact ((Below.refl w.heap.size w).alloc (Nat.le_refl _) (.cells cs e)).block b hb
    exact (hds.moves (hmv _ (fun _ _ h => h))).append (hnd.moves (hmv A hA))
theorem step_append_row {P : Program} {ops : Array Oper} {o : Oper} {a : Act} {K : Act → World → Prop} {Q : Exit → Act → World → Prop} {E : Prop} (hgd : o.guard = none) (s x : Operand) (t : TypeId)
    (ho : o.op = .call { callee := .builtin .append, args := #[s, x], argTypes := #[t, t] }) (base : Nat) (e : TypeId) (z : Value) (size bytes : Nat) (ht : P.underlying t = some (.slice e))
    (hi : (P.info? e).map (fun i => (i.zero, i.size, i.bytes)) = some (some z, size, bytes)) (hzs : z.cells.size = size) (hsz : 0 < size) (w : World) (v : Value) (n : Nat) (ds nd : List D) (hs : a.eval s = v) (hrow : Row base e size w v n ds)
    (cs : Array Value) (H : Nat) (hH : H = w.heap.size) (hx : a.eval x = .slice (some ⟨H, 0, none⟩) 1 1) (hcs : cs.size = size) (A : Nat → Prop) (hnd : EVals w A nd cs.toList) (hA : ∀ b, b < w.heap.size → A b → Beside base v b)
    (hn : n ≤ 5000) (hby : bytes ≤ 200) (hbase : base ≤ w.heap.size)
    (h : ∀ g cap w', Row base e size w' (.slice (some ⟨g, 0, none⟩) (n + 1) cap) (n + 1) (ds ++ nd) → Below base w w' → w.heap.size < w'.heap.size → K (a.put o.dst (.slice (some ⟨g, 0, none⟩) (n + 1) cap)) w') :
    if Region.wanted o (yielded ops a.tmps) = true then Oper.wp P o a (w.alloc (.cells cs e)) K Q else E := by
  obtain ⟨i0, hi, hz0, hz1, hz2⟩ := info_parts hi
  obtain ⟨xs, hown, hds⟩ := hrow
  have hsize : (w.alloc (.cells cs e)).heap.size = w.heap.size + 1 := by simp
  refine step_append_lies (w.alloc (.cells cs e)) hgd s x t ho base e i0 z size bytes ht hi hz0 hz1 hz2 hzs hsz v n xs hs (hown.alloc _) ⟨H, 0, none⟩ 1 1 cs.toList hx (by simp [hcs]) ?_ hnd.one (by omega) (by unfold maxLen; omega) ?_ (by omega) _ rfl ?_
  · intro j u hj
    subst hH
    have : (⟨w.heap.size, 0, none⟩ : Addr).add j = ⟨w.heap.size, j, none⟩ := by unfold Addr.add; split <;> simp_all
    rw [this, Lib.cell_of_heap (heap_newP w _)]
    simpa using hj
  · have : (n + 1) * bytes ≤ 5001 * 200 := Nat.mul_le_mul (by omega) hby
    omega
  · intro g cap w' hown' hgrow hat hlt
    have hbel : Below base w w' := ((Below.refl base w).alloc hbase _).grown hgrow (by omega) (fun k hk => (hown.lt k hk).1)
    have hgz := hgrow.size
    refine h g cap w' ⟨xs ++ cs.toList, hown', ?_⟩ hbel (by omega)
    have hmv : ∀ A' : Nat → Prop, (∀ b, b < w.heap.size → A' b → Beside base v b) → Moves w A' w' (Beside base (.slice (some ⟨g, 0, none⟩) (n + 1) cap)) := by
      intro A' hA'
      refine ⟨by omega, fun b hb ha => ⟨⟨(hA' b hb ha).1, fun hgb => ?_⟩, ?_⟩⟩
      · have hgb' : g = b := by simpa [Value.ownBlock] using hgb
        rcases hat with h1 | h1
        · exact (hA' b hb ha).2 (by rw [h1, hgb'])
        · omega
      · refine (hgrow.block b (by omega) (fun h => (hA' b hb ha).2 h.symm)).trans ?_
        exact ((Below.refl w.heap.size w).alloc (Nat.le_refl _) (.cells cs e)).block b hb
    exact (hds.moves (hmv _ (fun _ _ h => h))).append (hnd.moves (hmv A hA))
section
variable {R cap : Nat} {a : Option Addr} {ts l l0 : List Tk} {w w0 w' : World}
theorem Rd.belowOf (h : Rd R a cap ts w l) (h0 : Rd R a cap ts w0 l0) (hb : Below w0.heap.size w w') : Rd R a cap ts w' l := by
  refine ⟨?_, ?_, h.ne, h.len⟩
  · obtain ⟨k, h1, h2, h3⟩ := h.idx
    exact ⟨k, h1, h2, (hb.block R h0.lt).trans h3⟩
  · rcases h0.toks with h4 | ⟨b, off, ha, h4⟩
    · exact Or.inl h4
    · rcases h.toks with h5 | ⟨b', off', ha', h5⟩
      · exact Or.inl h5
      · have eq : b' = b := by rw [ha] at ha'; injection ha' with ha'; injection ha' with e1 e2; exact e1.symm
        subst eq
        exact Or.inr ⟨b', off', ha', h5.below hb h4.lt⟩
theorem Keeps.belowOf (h : Keeps R w0 w) (hb : Below w0.heap.size w w') : Keeps R w0 w' :=
  ⟨hb.os.trans h.os, hb.tape.trans h.tape, hb.output.trans h.output, Nat.le_trans h.size hb.size, fun k h1 h2 => (hb.block k h1).trans (h.block k h1 h2)⟩
end

/- how many tokens are left: for loops -/
def leftN (R n : Nat) (w : World) : Nat := match w.cell? ⟨R, 1, none⟩ with | some (.int _ k) => n - k.toNat | _ => 0
theorem Rd.left {R cap : Nat} {a : Option Addr} {ts l : List Tk} {w : World} (h : Rd R a cap ts w l) : leftN R ts.length w = l.length := by
  obtain ⟨k, hk, rfl, hb⟩ := h.idx
  unfold leftN
  rw [Lib.cell_of_heap hb]
  simp

end Go.Proofs.YtndkhgakfodldaaGreatDoor

namespace Go.Proofs.YtndkhgakfodldaaGreatDoor
open Go.RowKit Go.Maps Go.WideMaps
set_option linter.unusedSimpArgs false

theorem bl2 (w : World) (o p : Obj) : Below w.heap.size w ((w.alloc o).alloc p) := thenB (al1 w o) (al1 _ p)
theorem bl3 (w : World) (o p q : Obj) : Below w.heap.size w (((w.alloc o).alloc p).alloc q) := thenB (bl2 w o p) (al1 _ q)
set_option maxRecDepth 100000 in
set_option maxHeartbeats 1600000 in
theorem find_no (kv lv : Value) (g : Mg) (c : Int) (bl em : Bool) (mod name : ByteArray) (ks : List Int) (b cap : Nat) (w : World) (hem : mod.toList.isEmpty = em) (hno : (bl && em) = false)
    (h1 : (Instr.lookup 187 kv (.agg #[.string mod, .string name]) true).run Tryz.prog ((w.alloc (.cells #[kv, lv] 195)).alloc (.cells #[.int .i64 0, .int .i64 0, .int .i64 0, .int .i64 0] 242)) = .ok (.tuple #[.agg #[.int .i64 g.kind, .int .i64 g.n, .int .i64 g.m, .int .i64 g.at_], .bool false]) ((w.alloc (.cells #[kv, lv] 195)).alloc (.cells #[.int .i64 0, .int .i64 0, .int .i64 0, .int .i64 0] 242)))
    (h2 : (Instr.lookup 185 lv (.string name) true).run Tryz.prog (((w.alloc (.cells #[kv, lv] 195)).alloc (.cells #[.int .i64 0, .int .i64 0, .int .i64 0, .int .i64 0] 242)).alloc (.cells #[.int .i64 g.kind, .int .i64 g.n, .int .i64 g.m, .int .i64 g.at_] 242)) = .ok (.tuple #[.int .i64 c, .bool bl]) (((w.alloc (.cells #[kv, lv] 195)).alloc (.cells #[.int .i64 0, .int .i64 0, .int .i64 0, .int .i64 0] 242)).alloc (.cells #[.int .i64 g.kind, .int .i64 g.n, .int .i64 g.m, .int .i64 g.at_] 242))) :
    Calls Tryz.prog 256 #[.agg #[kv, lv], .string mod, .string name, .slice (some ⟨b, 0, none⟩) ks.length cap] w fun e w' => e = .returned (.tuple #[mg0.val, .int .i64 5]) ∧ Below w.heap.size w w' := by
  have HB := hid (fun o p q => bl3 w o p q)
  cases bl with
  | false =>
    clear hno
    go_enter Tryz.func256, Tryz.ntmps256
    go_wp2_with fail
    refine bodyPost_ret (v := .tuple #[mg0.val, .int .i64 5]) (by simp [results, Tryz.results256, go_sem, Mg.val, mg0]) rfl ⟨rfl, HB.out _ _ _⟩
  | true =>
    cases em with
    | true => cases hno
    | false =>
      clear hno
      go_enter Tryz.func256, Tryz.ntmps256
      go_wp2_with fail
      refine bodyPost_ret (v := .tuple #[mg0.val, .int .i64 5]) (by simp [results, Tryz.results256, go_sem, Mg.val, mg0]) rfl ⟨rfl, HB.out _ _ _⟩
set_option maxRecDepth 100000 in
set_option maxHeartbeats 1600000 in
theorem find_own (kv lv : Value) (g : Mg) (c : Int) (bl em : Bool) (mod name : ByteArray) (ks : List Int) (b cap : Nat) (w : World) (hI : IntsIn w b ks) (hl : ks.length ≤ 1000) (r : Mg × Int) (hr : r = if ks.contains g.kind then (g, 0) else (mg0, 7)) (hem : mod.toList.isEmpty = em) (hno : (bl && em) = false)
    (h1 : (Instr.lookup 187 kv (.agg #[.string mod, .string name]) true).run Tryz.prog ((w.alloc (.cells #[kv, lv] 195)).alloc (.cells #[.int .i64 0, .int .i64 0, .int .i64 0, .int .i64 0] 242)) = .ok (.tuple #[.agg #[.int .i64 g.kind, .int .i64 g.n, .int .i64 g.m, .int .i64 g.at_], .bool true]) ((w.alloc (.cells #[kv, lv] 195)).alloc (.cells #[.int .i64 0, .int .i64 0, .int .i64 0, .int .i64 0] 242)))
    (h2 : (Instr.lookup 185 lv (.string name) true).run Tryz.prog (((w.alloc (.cells #[kv, lv] 195)).alloc (.cells #[.int .i64 0, .int .i64 0, .int .i64 0, .int .i64 0] 242)).alloc (.cells #[.int .i64 g.kind, .int .i64 g.n, .int .i64 g.m, .int .i64 g.at_] 242)) = .ok (.tuple #[.int .i64 c, .bool bl]) (((w.alloc (.cells #[kv, lv] 195)).alloc (.cells #[.int .i64 0, .int .i64 0, .int .i64 0, .int .i64 0] 242)).alloc (.cells #[.int .i64 g.kind, .int .i64 g.n, .int .i64 g.m, .int .i64 g.at_] 242))) :
    Calls Tryz.prog 256 #[.agg #[kv, lv], .string mod, .string name, .slice (some ⟨b, 0, none⟩) ks.length cap] w fun e w' => e = .returned (.tuple #[r.1.val, .int .i64 r.2]) ∧ Below w.heap.size w w' := by
  have HB := hid (fun o p q => bl3 w o p q)
  have HI := hid hI
  have HQ := hid hr
  clear hI hr
  cases bl with
  | false =>
    clear hno
    go_enter Tryz.func256, Tryz.ntmps256
    go_wp2_with fail
    refine (containsI_any ks g.kind b cap _ (HI.out.later (HB.out _ _ _)) hl).mono ?_
    rintro e w' ⟨rfl, rfl⟩
    cases hc : ks.contains g.kind with
    | false =>
      have HR : Hid (r = (mg0, 7)) := HQ.out.trans (by rw [hc]; rfl)
      clear hc
      go_wp2_with fail
      refine bodyPost_ret (v := .tuple #[mg0.val, .int .i64 7]) (by simp [results, Tryz.results256, go_sem, Mg.val, mg0]) rfl ⟨by rw [HR.out], HB.out _ _ _⟩
    | true =>
      have HR : Hid (r = (⟨g.kind, g.n, g.m, g.at_⟩, 0)) := HQ.out.trans (by rw [hc]; rfl)
      clear hc
      go_wp2_with fail
      refine bodyPost_ret (v := .tuple #[.agg #[.int .i64 g.kind, .int .i64 g.n, .int .i64 g.m, .int .i64 g.at_], .int .i64 0]) (by simp [results, Tryz.results256, go_sem, Mg.val, mg0]) rfl ⟨by rw [HR.out]; rfl, HB.out _ _ _⟩
  | true =>
    cases em with
    | true => cases hno
    | false =>
      clear hno
      go_enter Tryz.func256, Tryz.ntmps256
      go_wp2_with fail
      refine (containsI_any ks g.kind b cap _ (HI.out.later (HB.out _ _ _)) hl).mono ?_
      rintro e w' ⟨rfl, rfl⟩
      cases hc : ks.contains g.kind with
      | false =>
        have HR : Hid (r = (mg0, 7)) := HQ.out.trans (by rw [hc]; rfl)
        clear hc
        go_wp2_with fail
        refine bodyPost_ret (v := .tuple #[mg0.val, .int .i64 7]) (by simp [results, Tryz.results256, go_sem, Mg.val, mg0]) rfl ⟨by rw [HR.out], HB.out _ _ _⟩
      | true =>
        have HR : Hid (r = (⟨g.kind, g.n, g.m, g.at_⟩, 0)) := HQ.out.trans (by rw [hc]; rfl)
        clear hc
        go_wp2_with fail
        refine bodyPost_ret (v := .tuple #[.agg #[.int .i64 g.kind, .int .i64 g.n, .int .i64 g.m, .int .i64 g.at_], .int .i64 0]) (by simp [results, Tryz.results256, go_sem, Mg.val, mg0]) rfl ⟨by rw [HR.out]; rfl, HB.out _ _ _⟩
set_option maxRecDepth 100000 in
set_option maxHeartbeats 1600000 in
theorem find_local (kv lv : Value) (g : Mg) (c : Int) (bk : Bool) (mod name : ByteArray) (ks : List Int) (b cap : Nat) (w : World) (hI : IntsIn w b ks) (hl : ks.length ≤ 1000) (r : Mg × Int) (hr : r = if ks.contains 0 then (⟨0, 0, 0, c⟩, 0) else (mg0, 7)) (hem : mod.toList.isEmpty = true)
    (h1 : (Instr.lookup 187 kv (.agg #[.string mod, .string name]) true).run Tryz.prog ((w.alloc (.cells #[kv, lv] 195)).alloc (.cells #[.int .i64 0, .int .i64 0, .int .i64 0, .int .i64 0] 242)) = .ok (.tuple #[.agg #[.int .i64 g.kind, .int .i64 g.n, .int .i64 g.m, .int .i64 g.at_], .bool bk]) ((w.alloc (.cells #[kv, lv] 195)).alloc (.cells #[.int .i64 0, .int .i64 0, .int .i64 0, .int .i64 0] 242)))
    (h2 : (Instr.lookup 185 lv (.string name) true).run Tryz.prog (((w.alloc (.cells #[kv, lv] 195)).alloc (.cells #[.int .i64 0, .int .i64 0, .int .i64 0, .int .i64 0] 242)).alloc (.cells #[.int .i64 g.kind, .int .i64 g.n, .int .i64 g.m, .int .i64 g.at_] 242)) = .ok (.tuple #[.int .i64 c, .bool true]) (((w.alloc (.cells #[kv, lv] 195)).alloc (.cells #[.int .i64 0, .int .i64 0, .int .i64 0, .int .i64 0] 242)).alloc (.cells #[.int .i64 g.kind, .int .i64 g.n, .int .i64 g.m, .int .i64 g.at_] 242))) :
    Calls Tryz.prog 256 #[.agg #[kv, lv], .string mod, .string name, .slice (some ⟨b, 0, none⟩) ks.length cap] w fun e w' => e = .returned (.tuple #[r.1.val, .int .i64 r.2]) ∧ Below w.heap.size w w' := by
  have HB := hid (fun o p q => bl3 w o p q)
  have HI := hid hI
  have HQ := hid hr
  clear hI hr
  go_enter Tryz.func256, Tryz.ntmps256
  go_wp2_with fail
  refine (containsI_any ks 0 b cap _ (HI.out.later (HB.out _ _ _)) hl).mono ?_
  rintro e w' ⟨rfl, rfl⟩
  cases hc : ks.contains 0 with
  | false =>
    have HR : Hid (r = (mg0, 7)) := HQ.out.trans (by rw [hc]; rfl)
    clear hc
    go_wp2_with fail
    refine bodyPost_ret (v := .tuple #[mg0.val, .int .i64 7]) (by simp [results, Tryz.results256, go_sem, Mg.val, mg0]) rfl ⟨by rw [HR.out], HB.out _ _ _⟩
  | true =>
    have HR : Hid (r = (⟨0, 0, 0, c⟩, 0)) := HQ.out.trans (by rw [hc]; rfl)
    clear hc
    go_wp2_with fail
    refine bodyPost_ret (v := .tuple #[.agg #[.int .i64 0, .int .i64 0, .int .i64 0, .int .i64 c], .int .i64 0]) (by simp [results, Tryz.results256, go_sem, Mg.val, mg0]) rfl ⟨by rw [HR.out]; rfl, HB.out _ _ _⟩
theorem find_any (K : Kn) (L : Lc) (kv lv : Value) (mod name : ByteArray) (ks : List Int) (b cap : Nat) (w : World) (hK : KnAt w kv K) (hL : LcAt w lv L) (hm : mod.size ≤ maxLen) (hn : name.size ≤ maxLen) (hI : IntsIn w b ks) (hl : ks.length ≤ 1000) :
    Calls Tryz.prog 256 #[.agg #[kv, lv], .string mod, .string name, .slice (some ⟨b, 0, none⟩) ks.length cap] w fun e w' => e = .returned (.tuple #[(findM K L mod name ks).1.val, .int .i64 (findM K L mod name ks).2]) ∧ Below w.heap.size w w' := by
  have h1 := hK ((w.alloc (.cells #[kv, lv] 195)).alloc (.cells #[.int .i64 0, .int .i64 0, .int .i64 0, .int .i64 0] 242)) (bl2 _ _ _) mod name hm hn
  generalize hg : (K mod name).getD mg0 = g at h1
  have h2 := hL (((w.alloc (.cells #[kv, lv] 195)).alloc (.cells #[.int .i64 0, .int .i64 0, .int .i64 0, .int .i64 0] 242)).alloc (.cells #[.int .i64 g.kind, .int .i64 g.n, .int .i64 g.m, .int .i64 g.at_] 242)) (bl3 _ _ _ _) name hn
  have he := empty_size mod
  unfold findM lookM
  cases hl' : L name with
  | some c =>
    rw [hl'] at h2
    by_cases hz : mod.size = 0
    · rw [if_pos hz]
      rw [decide_eq_true hz] at he
      exact find_local kv lv g c _ mod name ks b cap w hI hl _ rfl he h1 h2
    · rw [if_neg hz]
      rw [decide_eq_false hz] at he
      cases hk : K mod name with
      | none => rw [hk] at h1; exact find_no kv lv g c true false mod name ks b cap w he rfl h1 h2
      | some x =>
        rw [hk] at h1 hg
        obtain rfl : x = g := hg
        exact find_own kv lv x c true false mod name ks b cap w hI hl _ rfl he rfl h1 h2
  | none =>
    rw [hl'] at h2
    have e : (if mod.size = 0 then (match (none : Option Int) with | some a => some (⟨0, 0, 0, a⟩ : Mg) | none => K mod name) else K mod name) = K mod name := by split <;> rfl
    simp only [ite_self]
    cases hk : K mod name with
    | none => rw [hk] at h1; exact find_no kv lv g 0 false _ mod name ks b cap w he rfl h1 h2
    | some x =>
      rw [hk] at h1 hg
      obtain rfl : x = g := hg
      exact find_own kv lv x 0 false _ mod name ks b cap w hI hl _ rfl he rfl h1 h2
theorem ints_new (w : World) (l : List Int) (t : TypeId) (b : Nat) (hb : b = w.heap.size) : IntsIn (w.alloc (.cells (l.map (Value.int .i64)).toArray t)) b l := by
  subst hb
  refine ⟨by simp, fun j hj => ?_⟩
  rw [Lib.cell_of_heap (heap_newP w _)]
  simp [hj]
theorem below_set4 {B b : Nat} {a w : World} (h : Below B a w) (hb : B ≤ b) (v0 v1 v2 v3 : Value) : Below B a ((((w.setCell ⟨b, 0, none⟩ v0).setCell ⟨b, 1, none⟩ v1).setCell ⟨b, 2, none⟩ v2).setCell ⟨b, 3, none⟩ v3) :=
  (((h.setCell (p := ⟨b, 0, none⟩) hb _).setCell (p := ⟨b, 1, none⟩) hb _).setCell (p := ⟨b, 2, none⟩) hb _).setCell (p := ⟨b, 3, none⟩) hb _
/- what find answers to a call that hands it a new list of kinds -/
theorem find_new (K : Kn) (L : Lc) (kv lv : Value) (mod name : ByteArray) (ks : List Int) (t : TypeId) (b cap : Nat) (w : World) (hb : b = w.heap.size) (hK : KnAt w kv K) (hL : LcAt w lv L) (hm : mod.size ≤ maxLen) (hn : name.size ≤ maxLen) (hl : ks.length ≤ 1000) :
    Calls Tryz.prog 256 #[.agg #[kv, lv], .string mod, .string name, .slice (some ⟨b, 0, none⟩) ks.length cap] (w.alloc (.cells (ks.map (Value.int .i64)).toArray t)) fun e w' => e = .returned (.tuple #[(findM K L mod name ks).1.val, .int .i64 (findM K L mod name ks).2]) ∧ Below w.heap.size w w' :=
  (find_any K L kv lv mod name ks b cap _ (hK.later (al1 _ _)) (hL.later (al1 _ _)) hm hn (ints_new w ks t b hb) hl).mono fun _ _ h => ⟨h.1, thenB (al1 _ _) h.2⟩
set_option maxRecDepth 100000 in
set_option maxHeartbeats 1600000 in
theorem routine_any (K : Kn) (L : Lc) (kv lv : Value) (mod name : ByteArray) (handed : Int) (w : World) (hK : KnAt w kv K) (hL : LcAt w lv L) (hm : mod.size ≤ maxLen) (hn : name.size ≤ maxLen) :
    Calls Tryz.prog 257 #[.agg #[kv, lv], .string mod, .string name, .int .i64 handed] w fun e w' => e = .returned (.tuple #[(routM K L mod name handed).1.val, .int .i64 (routM K L mod name handed).2]) ∧ Below w.heap.size w w' := by
  have HC := hid (find_new K L kv lv mod name [4] 3 (w.heap.size + 2) 1 ((w.alloc (.cells #[kv, lv] 195)).alloc (.cells #[.int .i64 0, .int .i64 0, .int .i64 0, .int .i64 0] 242)) (by simp) (hK.later (bl2 _ _ _)) (hL.later (bl2 _ _ _)) hm hn (by decide))
  have HB := hid (fun o p => bl2 w o p)
  have hR : ∀ x, routM K L mod name handed = x → Hid (routM K L mod name handed = x) := fun x h => h
  unfold routM at hR ⊢
  clear hK hL hm hn
  generalize findM K L mod name [4] = r at *
  obtain ⟨⟨kd, n, m, at_⟩, er⟩ := r
  simp only [Mg.val] at HC hR
  generalize hq : (if er = 0 ∧ n ≠ handed then (mg0, (8 : Int)) else (({ kind := kd, n := n, m := m, at_ := at_ } : Mg), er)) = q at *
  have HQ := hid hq
  clear hq hR
  go_enter Tryz.func257, Tryz.ntmps257
  go_wp2_with fail
  refine HC.out.mono ?_
  rintro e w1 ⟨rfl, hb1⟩
  have HB1 := hid (thenB (HB.out _ _) hb1)
  have hz1 := hb1.size
  simp at hz1
  have HQ1 : Hid (w1.heap[w.heap.size + 1]? = some (.cells #[.int .i64 0, .int .i64 0, .int .i64 0, .int .i64 0] 242)) := (hb1.block (w.heap.size + 1) (by simp)).trans (by have := heap_newP (w.alloc (.cells #[kv, lv] 195)) (.cells #[.int .i64 0, .int .i64 0, .int .i64 0, .int .i64 0] 242); simpa using this)
  obtain ⟨h0, h1, h2, h3, h4⟩ := cellsOf4 HQ1.out
  have hlt : w.heap.size + 1 < w1.heap.size := by omega
  clear hb1 HC
  by_cases he : er = 0
  · by_cases hn : n = handed
    · have HR : Hid (q = (⟨kd, n, m, at_⟩, 0)) := HQ.out.symm.trans (by rw [if_neg (by simp [hn]), he])
      subst he hn
      clear HQ
      go_wp2_with fail
      refine bodyPost_ret (v := .tuple #[.agg #[.int .i64 kd, .int .i64 n, .int .i64 m, .int .i64 at_], .int .i64 0]) (by simp [results, Tryz.results257, go_sem, h0, h1, h2, h3, hlt]) rfl ⟨by rw [HR.out]; rfl, ?_⟩
      first | exact below_set4 (HB1.out.alloc HB1.out.size _) (by omega) _ _ _ _ | exact (below_set4 HB1.out (by omega) _ _ _ _).alloc (by simp; omega) _
    · have HR : Hid (q = (mg0, 8)) := HQ.out.symm.trans (by rw [if_pos ⟨he, hn⟩])
      subst he
      clear HQ
      go_wp2_with fail
      refine bodyPost_ret (v := .tuple #[mg0.val, .int .i64 8]) (by simp [results, Tryz.results257, go_sem, Mg.val, mg0, h0, h1, h2, h3, hlt]) rfl ⟨by rw [HR.out], ?_⟩
      first | exact below_set4 (HB1.out.alloc HB1.out.size _) (by omega) _ _ _ _ | exact (below_set4 HB1.out (by omega) _ _ _ _).alloc (by simp; omega) _
  · have HR : Hid (q = (⟨kd, n, m, at_⟩, er)) := HQ.out.symm.trans (by rw [if_neg (by simp [he])])
    clear HQ
    go_wp2_with fail
    refine bodyPost_ret (v := .tuple #[.agg #[.int .i64 kd, .int .i64 n, .int .i64 m, .int .i64 at_], .int .i64 er]) (by simp [results, Tryz.results257, go_sem, h0, h1, h2, h3, hlt]) rfl ⟨by rw [HR.out]; rfl, ?_⟩
    first | exact below_set4 (HB1.out.alloc HB1.out.size _) (by omega) _ _ _ _ | exact (below_set4 HB1.out (by omega) _ _ _ _).alloc (by simp; omega) _
end Go.Proofs.YtndkhgakfodldaaGreatDoor
