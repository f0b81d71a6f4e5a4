/-
  Lists of numbers and of names; sorted keys; whether all that a module uses is there.
-/
import Derived.Test.YtplkbngnnaogkaaOb
import Derived.Test.YtplkbngnnaogkaaShelf
namespace Go.Proofs.Ytplkbngnnaogkaa
open Go.RowKit Go.Maps Go.Sort Go.WideMaps

/- A list of numbers; of names. -/
def IntsIn (w : World) (v : Value) (zs : List Int) : Prop := ∃ a cap, v = .slice a zs.length cap ∧ (zs = [] ∨ ∃ b, a = some ⟨b, 0, none⟩ ∧ b < w.heap.size ∧ ∀ j (h : j < zs.length), w.cell? ⟨b, j, none⟩ = some (.int .i64 zs[j]))
def StrsIn (w : World) (v : Value) (l : List Nm) : Prop := ∃ a cap, v = .slice a l.length cap ∧ (l = [] ∨ ∃ b, a = some ⟨b, 0, none⟩ ∧ b < w.heap.size ∧ ∀ j (h : j < l.length), w.cell? ⟨b, j, none⟩ = some (.string (strOf l[j])))
theorem IntsIn.later {w w' : World} {v : Value} {zs : List Int} (h : IntsIn w v zs) (hb : Below w.heap.size w w') : IntsIn w' v zs := by
  obtain ⟨a, cap, rfl, h⟩ := h
  refine ⟨a, cap, rfl, ?_⟩
  rcases h with h | ⟨b, e, hl, hc⟩
  · exact Or.inl h
  · exact Or.inr ⟨b, e, Nat.lt_of_lt_of_le hl hb.size, fun j hj => (hb.cell (p := ⟨b, j, none⟩) hl).trans (hc j hj)⟩
theorem StrsIn.later {w w' : World} {v : Value} {zs : List Nm} (h : StrsIn w v zs) (hb : Below w.heap.size w w') : StrsIn w' v zs := by
  obtain ⟨a, cap, rfl, h⟩ := h
  refine ⟨a, cap, rfl, ?_⟩
  rcases h with h | ⟨b, e, hl, hc⟩
  · exact Or.inl h
  · exact Or.inr ⟨b, e, Nat.lt_of_lt_of_le hl hb.size, fun j hj => (hb.cell (p := ⟨b, j, none⟩) hl).trans (hc j hj)⟩
theorem add0 (g j : Nat) : (⟨g, 0, none⟩ : Addr).add j = ⟨g, j, none⟩ := by unfold Addr.add; split <;> simp_all
theorem IntsIn.of_row {w : World} {base n : Nat} {v : Value} {zs : List Int} (h : w.ownsRow base 3 1 v n (zs.map (.int .i64))) (hn : n = zs.length) : IntsIn w v zs := by
  subst hn
  have hc := fun g => h.cells (g := g)
  have hl := h.lt
  rcases h.2 with ⟨h1, h2⟩ | ⟨g, cap, cur, rfl, hb, hg, _⟩
  · exact ⟨none, 0, by rw [h1, h2], Or.inl (List.eq_nil_of_length_eq_zero h2)⟩
  · refine ⟨_, cap, rfl, Or.inr ⟨g, rfl, (hl g rfl).2, fun j hj => ?_⟩⟩
    have := hc g rfl j (.int .i64 zs[j]) (by simp [hj])
    rwa [add0] at this
theorem StrsIn.of_row {w : World} {base n : Nat} {v : Value} {l : List Nm} (h : w.ownsRow base 9 1 v n (l.map encStr)) (hn : n = l.length) : StrsIn w v l := by
  subst hn
  have hc := fun g => h.cells (g := g)
  have hl := h.lt
  rcases h.2 with ⟨h1, h2⟩ | ⟨g, cap, cur, rfl, hb, hg, _⟩
  · exact ⟨none, 0, by rw [h1, h2], Or.inl (List.eq_nil_of_length_eq_zero h2)⟩
  · refine ⟨_, cap, rfl, Or.inr ⟨g, rfl, (hl g rfl).2, fun j hj => ?_⟩⟩
    have := hc g rfl j (encStr l[j]) (by simp [hj])
    rwa [add0] at this
theorem contains_any (v : Value) (zs : List Int) (x : Int) (w : World) (hl : zs.length ≤ 1000) (h : IntsIn w v zs) :
    Calls Try.prog 19 #[v, .int .i64 x] w fun e w' => e = .returned (.bool (zs.contains x)) ∧ w' = w := by
  obtain ⟨a, cap, rfl, h⟩ := h
  rcases h with rfl | ⟨b, rfl, hb, hc⟩
  · exact Try.slices_Contains_int_empty a cap x w
  · have := Try.slices_Contains_int b 0 zs.length cap zs x w (Nat.le_refl _) (by omega) (fun j hj => by rw [Nat.zero_add, hc j hj]; simp [hj])
    rw [List.take_length] at this
    exact this
/- The keys, sorted. -/
theorem keysNum_any (mb : Option Nat) (w : World) : Calls Try.prog 18 #[.map mb] w fun e w' => e = .returned (.func (.func 29) #[] #[.pointer (some ⟨w.heap.size, 0, none⟩)]) ∧ w' = w.alloc (.cells #[.map mb] 45) :=
  callsIn_wide.1 (Try.maps_Keys_18 mb w)
theorem keysSet_any (mb : Option Nat) (w : World) : Calls Try.prog 22 #[.map mb] w fun e w' => e = .returned (.func (.func 33) #[] #[.pointer (some ⟨w.heap.size, 0, none⟩)]) ∧ w' = w.alloc (.cells #[.map mb] 54) :=
  callsIn_wide.1 (Try.maps_Keys_22 mb w)
theorem sortedNum_any (b : Nat) (w : World) (ns : List Nm) (h : NumAt w b ns) (hn : ns.Nodup) (hl : ns.length ≤ 1000) :
    Calls Try.prog 17 #[.func (.func 29) #[] #[.pointer (some ⟨w.heap.size, 0, none⟩)]] (w.alloc (.cells #[.map (some b)] 45)) fun e w' => ∃ v, e = .returned v ∧ StrsIn w' v (ns.mergeSort Og.le) ∧ Below w.heap.size w w' := by
  obtain ⟨n, D, h1, h2, h3⟩ := h.keys hn
  refine (callsIn_wide.1 (Try.slices_Sorted_keys_17_18 b n D _ w h1 (by rw [h3]; unfold maxLen; omega) (by rw [h3]; omega))).mono ?_
  rintro e w' ⟨v, ss, rfl, hp, hr, _, hb⟩
  have hm : ss.mergeSort Og.le = ns.mergeSort Og.le := mergeSort_of_perm (hp.trans h2.symm)
  refine ⟨v, rfl, ?_, thenB (al1 _ _) hb⟩
  have hr' : w'.ownsRow _ 9 1 v ss.length ((ss.mergeSort Og.le).map encStr) := hr
  rw [hm] at hr'
  exact StrsIn.of_row hr' (by rw [← hm]; simp)
theorem sortedSet_any (b : Nat) (w : World) (l : List Nm) (h : SetAt w b l) (hl : l.length ≤ 1000) :
    Calls Try.prog 17 #[.func (.func 33) #[] #[.pointer (some ⟨w.heap.size, 0, none⟩)]] (w.alloc (.cells #[.map (some b)] 54)) fun e w' => ∃ v, e = .returned v ∧ StrsIn w' v (l.mergeSort Og.le) ∧ Below w.heap.size w w' := by
  obtain ⟨n, D, h1, h2, h3⟩ := h.keys
  refine (callsIn_wide.1 (Try.slices_Sorted_keys_17_22 b n D _ w h1 (by rw [h3]; unfold maxLen; omega) (by rw [h3]; omega))).mono ?_
  rintro e w' ⟨v, ss, rfl, hp, hr, _, hb⟩
  have hm : ss.mergeSort Og.le = l.mergeSort Og.le := mergeSort_of_perm (hp.trans h2.symm)
  refine ⟨v, rfl, ?_, thenB (al1 _ _) hb⟩
  have hr' : w'.ownsRow _ 9 1 v ss.length ((ss.mergeSort Og.le).map encStr) := hr
  rw [hm] at hr'
  exact StrsIn.of_row hr' (by rw [← hm]; simp)
/- Whether all that a module uses is there. -/
def thereB (ns : List Nm) (zs : List Int) (u : ByteArray) : Bool := zs.contains ((ns.idxOf u.data.toList : Nat) : Int)
set_option maxRecDepth 100000 in
set_option maxHeartbeats 400000 in
theorem notThere_any (u : ByteArray) (p4 p5 b : Nat) (v : Value) (ns : List Nm) (zs : List Int) (w : World) (hs : u.size ≤ maxLen) (hn : ns.Nodup) (hm : u.data.toList ∈ ns) (hN : NumAt w b ns) (hz : IntsIn w v zs) (hl : zs.length ≤ 1000)
    (h5 : w.cell? ⟨p5, 0, none⟩ = some v) (h4 : w.cell? ⟨p4, 0, none⟩ = some (.map (some b))) :
    Calls Try.prog 32 #[.string u, .pointer (some ⟨p5, 0, none⟩), .pointer (some ⟨p4, 0, none⟩)] w fun e w' => e = .returned (.bool (!thereB ns zs u)) ∧ w' = w := by
  have hlk := hN.look hn hs hm
  have HC : Hid (Calls Try.prog 19 #[v, .int .i64 ((ns.idxOf u.data.toList : Nat) : Int)] w fun e w' => e = .returned (.bool (thereB ns zs u)) ∧ w' = w) := contains_any v zs _ w hl hz
  obtain ⟨a, cap, rfl, _⟩ := hz
  clear hN
  generalize ((ns.idxOf u.data.toList : Nat) : Int) = x at *
  go_enter Try.func32, Try.ntmps32
  go_wp2_with (go_at_call 19; refine HC.out.mono ?_; rintro e w' ⟨rfl, rfl⟩)
  go_ret
  exact ⟨rfl, rfl⟩
set_option maxRecDepth 100000 in
set_option maxHeartbeats 800000 in
theorem indexThere_any (l : List ByteArray) (a : Option Addr) (cap : Nat) (p4 p5 b : Nat) (v : Value) (ns : List Nm) (zs : List Int) (w : World) (hD : DAt w Tt a l.length (strsD l)) (hn : ns.Nodup) (hm : ∀ u ∈ l, u.data.toList ∈ ns) (hN : NumAt w b ns) (hz : IntsIn w v zs) (hl : zs.length ≤ 1000)
    (h5 : w.cell? ⟨p5, 0, none⟩ = some v) (h4 : w.cell? ⟨p4, 0, none⟩ = some (.map (some b))) :
    Calls Try.prog 44 #[.slice a l.length cap, .func (.func 32) #[] #[.pointer (some ⟨p5, 0, none⟩), .pointer (some ⟨p4, 0, none⟩)]] w fun e w' => ∃ n : Int, e = .returned (.int .i64 n) ∧ decide (0 ≤ n) = !l.all (thereB ns zs) ∧ w' = w := by
  have hbd := hD.bound
  have HD := hid hD
  have HF : Hid (∀ j (h : j < l.length), Calls Try.prog 32 #[.string l[j], .pointer (some ⟨p5, 0, none⟩), .pointer (some ⟨p4, 0, none⟩)] w fun e w' => e = .returned (.bool (!thereB ns zs l[j])) ∧ w' = w) := fun j h => by
    obtain ⟨_, _, _, _, _, hs⟩ := hD.str j h
    exact notThere_any l[j] p4 p5 b v ns zs w hs hn (hm _ (List.getElem_mem h)) hN hz hl h5 h4
  clear hD hN hz h5 h4
  go_enter Try.func44, Try.ntmps44
  go_wp2_with fail
  go_loopw [8] (fun i wr => ∃ j : Nat, j ≤ l.length ∧ i = .int .i64 j ∧ (l.take j).all (thereB ns zs) = true ∧ wr = w) (fun i _ => l.length - (intOf i).toNat)
  case atStart => exact ⟨0, Nat.zero_le _, rfl, rfl, rfl⟩
  case round =>
    obtain ⟨j, hj, rfl, hall, rfl⟩ := hrel
    have HA := hid hall
    clear hall
    by_cases hlt : j < l.length
    · obtain ⟨b, off, rfl, hlb, hc, hsz⟩ := HD.out.str j hlt
      go_wp2_with fail
      refine (HF.out j hlt).mono ?_
      cases hn : thereB ns zs l[j] with
      | false =>
        have HX : Hid (l.all (thereB ns zs) = false) := all_not l _ j hlt hn
        rintro e w3 ⟨rfl, rfl⟩
        go_wp2_with fail
        go_ret
        exact ⟨j, rfl, by rw [HX.out]; simp, rfl⟩
      | true =>
        have HT : Hid ((l.take (j + 1)).all (thereB ns zs) = true) := by
          show _ = _
          rw [all_snoc l _ j hlt, HA.out, hn]; rfl
        rintro e w3 ⟨rfl, rfl⟩
        go_wp2_with fail
        go_roundw
        case rel => exact ⟨j + 1, by omega, by go_num, HT.out, by first | rfl | trivial⟩
        case measure => simp [intOf]; omega
    · have HT : Hid (l.all (thereB ns zs) = true) := all_end HA.out hlt
      go_wp2_with fail
      go_ret
      exact ⟨-1, rfl, by rw [HT.out]; rfl, rfl⟩
set_option maxRecDepth 100000 in
set_option maxHeartbeats 400000 in
theorem containsThere_any (l : List ByteArray) (a : Option Addr) (cap : Nat) (p4 p5 b : Nat) (v : Value) (ns : List Nm) (zs : List Int) (w : World) (hD : DAt w Tt a l.length (strsD l)) (hn : ns.Nodup) (hm : ∀ u ∈ l, u.data.toList ∈ ns) (hN : NumAt w b ns) (hz : IntsIn w v zs) (hl : zs.length ≤ 1000)
    (h5 : w.cell? ⟨p5, 0, none⟩ = some v) (h4 : w.cell? ⟨p4, 0, none⟩ = some (.map (some b))) :
    Calls Try.prog 31 #[.slice a l.length cap, .func (.func 32) #[] #[.pointer (some ⟨p5, 0, none⟩), .pointer (some ⟨p4, 0, none⟩)]] w fun e w' => e = .returned (.bool (!l.all (thereB ns zs))) ∧ w' = w := by
  have HI := hid (indexThere_any l a cap p4 p5 b v ns zs w hD hn hm hN hz hl h5 h4)
  clear hD hN hz h5 h4
  go_enter Try.func31, Try.ntmps31
  go_wp2_with (go_at_call 44; refine HI.out.mono ?_; rintro e w' ⟨n, rfl, hn, rfl⟩)
  go_ret
  exact ⟨rfl, rfl⟩
theorem Blk.new3 (w : World) (o1 o2 : Obj) (cs : Array Value) (t : TypeId) : Blk (((w.alloc o1).alloc o2).alloc (.cells cs t)) (w.heap.size + 1 + 1) cs.toList := by
  have := Blk.new ((w.alloc o1).alloc o2) cs t
  simpa using this
theorem al3 (w : World) (o1 o2 o3 : Obj) : Below w.heap.size w (((w.alloc o1).alloc o2).alloc o3) := thenB (al2 w o1 o2) (al1 _ _)
set_option maxRecDepth 100000 in
set_option maxHeartbeats 800000 in
theorem usesAre_any (m : Mo) (mv : Value) (a1 : Option Addr) (c1 : Nat) (a2 : Option Addr) (c2 : Nat) (a3 : Option Addr) (c3 : Nat) (a4 : Option Addr) (c4 : Nat) (b : Nat) (v : Value) (ns : List Nm) (zs : List Int) (w : World) (hM : MoAt w Tt m mv a1 c1 a2 c2 a3 c3 a4 c4)
    (hn : ns.Nodup) (hm : ∀ u ∈ m.uses, u.data.toList ∈ ns) (hN : NumAt w b ns) (hz : IntsIn w v zs) (hl : zs.length ≤ 1000) :
    Calls Try.prog 20 #[mv, .map (some b), v] w fun e w' => e = .returned (.bool (m.uses.all (thereB ns zs))) ∧ Below w.heap.size w w' := by
  obtain rfl := hM.val
  have HM := hid hM
  have HN := hid hN
  have HZ := hid hz
  obtain ⟨va, vc, rfl, hv⟩ := hz
  clear hv hM hN
  go_enter Try.func20, Try.ntmps20
  go_wp2_with fail
  refine (containsThere_any m.uses a1 c1 _ _ b (.slice va zs.length vc) ns zs _ (HM.out.uses.later (al3 _ _ _ _)) hn hm (HN.out.later (al3 _ _ _ _)) (HZ.out.later (al3 _ _ _ _)) hl ((Blk.new3 w _ _ _ _).cell 0 _ rfl) (((Blk.new2 w _ _ _).later (al1 _ _)).cell 0 _ rfl)).mono ?_
  rintro e w1 ⟨rfl, rfl⟩
  go_wp2_with fail
  go_ret
  exact ⟨ret_bool (by simp), al3 _ _ _ _⟩
end Go.Proofs.Ytplkbngnnaogkaa
