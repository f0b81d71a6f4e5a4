/-
  Package scope: a unit, without the program; faces in memory.
-/
import Derived.Test.YtndkhgakfodldaaGreatDoorKk
import Derived.Test.YtndkhgakfodldaaGreatDoorUk
namespace Go.Proofs.YtndkhgakfodldaaGreatDoor
open Go.RowKit Go.Maps Go.WideMaps
set_option linter.unusedSimpArgs false

abbrev Fc := Fx.Fc
def fcD (f : Fc) : List D := [.str f.name, .list f.items.length (itsD f.items)]
def fcsD (l : List Fc) : List D := l.flatMap fcD
def ownK (m : Mo) : Kn := declK (fun _ _ => none) ⟨#[]⟩ 0 (layItems m)
def facesK (K : Kn) (l : List Fc) : Kn := l.zipIdx.foldl (fun K p => declK K p.1.name ((p.2 : Int) + 1) p.1.items) K
theorem facesK_snoc (K : Kn) (l : List Fc) (f : Fc) : facesK K (l ++ [f]) = declK (facesK K l) f.name ((l.length : Int) + 1) f.items := by
  unfold facesK; rw [List.zipIdx_append, List.foldl_append]; simp
def knownK (m : Mo) (l : List Fc) : Kn := facesK (ownK m) l
def partsM (K : Kn) : List Pr → Except Int (List Pt)
  | [] => .ok []
  | p :: r => bindE (partM K p) fun t => bindE (partsM K r) fun l => .ok (t :: l)
def unitM (m : Mo) (l : List Fc) : Except Int Un := bindE (partsM (knownK m l) m.procs) fun ps => bindE (rsSs (knownK m l) (fun _ => none) m.main) fun b => .ok ⟨m.name, m.uses, layData m, ps, b⟩
theorem partsM_app (K : Kn) : ∀ (a b : List Pr) (acc : List Pt), partsM K a = .ok acc → partsM K (a ++ b) = bindE (partsM K b) fun l => .ok (acc ++ l)
  | [], b, acc, h => by
    obtain rfl := Except.ok.inj h
    show partsM K b = _
    exact (bindE_ok _).symm
  | x :: a, b, acc, h => by
    rw [partsM] at h
    show partsM K (x :: (a ++ b)) = _
    rw [partsM]
    cases hx : partM K x with
    | error e => rw [hx] at h; cases h
    | ok y =>
      rw [hx] at h
      simp only [bindE] at h ⊢
      cases ha : partsM K a with
      | error e => rw [ha] at h; cases h
      | ok l =>
        rw [ha] at h
        obtain rfl := Except.ok.inj h
        rw [partsM_app K a b l ha]
        cases partsM K b <;> rfl
theorem partsM_err {K : Kn} {l : List Pr} {j : Nat} {acc : List Pt} {e : Int} (h : j < l.length) (ha : partsM K (l.take j) = .ok acc) (he : partM K l[j] = .error e) : partsM K l = .error e := by
  rw [split_at l j h, partsM_app K _ _ acc ha, partsM, he]; rfl
theorem partsM_snoc {K : Kn} {l : List Pr} {j : Nat} {acc : List Pt} {y : Pt} (h : j < l.length) (ha : partsM K (l.take j) = .ok acc) (he : partM K l[j] = .ok y) : partsM K (l.take (j + 1)) = .ok (acc ++ [y]) := by
  rw [List.take_succ_eq_append_getElem h, partsM_app K _ _ acc ha, partsM, he]; rfl
theorem unit_parts {m : Mo} {l : List Fc} {c : Int} (h : partsM (knownK m l) m.procs = .error c) : unitM m l = .error c := by unfold unitM; rw [h]; rfl
theorem unit_main {m : Mo} {l : List Fc} {c : Int} {ps : List Pt} (h : partsM (knownK m l) m.procs = .ok ps) (h2 : rsSs (knownK m l) (fun _ => none) m.main = .error c) : unitM m l = .error c := by unfold unitM; rw [h, h2]; rfl
theorem unit_ok {m : Mo} {l : List Fc} {ps : List Pt} {b : List Ac} (h : partsM (knownK m l) m.procs = .ok ps) (h2 : rsSs (knownK m l) (fun _ => none) m.main = .ok b) : unitM m l = .ok ⟨m.name, m.uses, layData m, ps, b⟩ := by unfold unitM; rw [h, h2]; rfl
def unitEnd (lo : Nat) (r : Except Int Un) (e : Ending) (w : World) : Prop :=
  match r with
  | .error c => e = .returned (.tuple #[.agg #[.string ⟨#[]⟩, .slice none 0 0, .int .i64 0, .slice none 0 0, .slice none 0 0], .int .i64 c]) ∧ c ≠ 0
  | .ok u => ∃ x1 y1 x2 y2 x3 y3, e = .returned (.tuple #[.agg #[.string u.name, .slice x1 u.uses.length y1, .int .i64 u.data, .slice x2 u.parts.length y2, .slice x3 u.main.length y3], .int .i64 0]) ∧
    EAt w (lo ≤ ·) x1 u.uses.length (strsD u.uses) ∧ EAt w (lo ≤ ·) x2 u.parts.length (ptsD u.parts) ∧ EAt w (lo ≤ ·) x3 u.main.length (acsD u.main)
theorem DAt.fc {w : World} {A : Nat → Prop} {a : Option Addr} {l : List Fc} (h : DAt w A a l.length (fcsD l)) (i : Nat) (hi : i < l.length) : ∃ b off ai ci, a = some ⟨b, off, none⟩ ∧ b < w.heap.size ∧ w.cell? ⟨b, off + i * 2, none⟩ = some (.string l[i].name) ∧ w.cell? ⟨b, off + i * 2 + 1, none⟩ = some (.slice ai l[i].items.length ci) ∧ l[i].name.size ≤ maxLen ∧ DAt w A ai l[i].items.length (itsD l[i].items) := by
  obtain ⟨b, off, ha, hb, hc⟩ := h.cell (by omega)
  generalize hx : l[i] = x
  obtain ⟨name, items⟩ := x
  have g : ∀ j d, j < 2 → (fcD ⟨name, items⟩)[j]? = some d → ∃ v, w.cell? ⟨b, off + i * 2 + j, none⟩ = some v ∧ DVal w A d v := fun j d hj hd => by
    rw [Nat.add_assoc]; exact hc (i * 2 + j) d ((flat_get fcD 2 (fun _ => rfl) l i hi j hj).trans (by rw [hx]; exact hd))
  obtain ⟨v0, k0, d0⟩ := g 0 (.str name) (by omega) rfl
  obtain ⟨v1, k1, d1⟩ := g 1 (.list items.length (itsD items)) (by omega) rfl
  obtain ⟨rfl, w0⟩ := dstr_of d0
  obtain ⟨ai, ci, rfl, h1⟩ := dlist_of d1
  exact ⟨b, off, ai, ci, ha, hb, k0, k1, w0, h1⟩
/- What lies there, in range, lies there for package scope's own looks. -/
theorem items_atD {w : World} {A : Nat → Prop} {a : Option Addr} {l : List It} (h : DAt w A a l.length (itsD l)) : Fx.ItemsAt w a l ∧ Fx.AllFit l := by
  rcases h.2.2 with h | ⟨b, off, cs, ha, _, hb, hc, hx⟩
  · have : l = [] := List.eq_nil_of_length_eq_zero h
    subst this
    exact ⟨Or.inl rfl, fun i hi => by cases hi⟩
  · have g : ∀ i (hi : i < l.length) j d, j < 4 → (itD l[i])[j]? = some d → ∃ v, w.cell? ⟨b, off + i * 4 + j, none⟩ = some v ∧ DVal w A d v := fun i hi j d hj hd => by
      obtain ⟨v, hv, hd'⟩ := hx.get (i * 4 + j) d ((flat_get itD 4 (fun _ => rfl) l i hi j hj).trans hd)
      exact ⟨v, by rw [Nat.add_assoc]; exact hc _ v hv, hd'⟩
    refine ⟨Or.inr ⟨b, off, ha, hb, fun i hi => ?_, fun i hi => ?_, fun i hi => ?_, fun i hi => ?_⟩, fun x hx' => ?_⟩
    · obtain ⟨v, hv, hd⟩ := g i hi 0 (.int l[i].kind) (by omega) rfl
      rw [(dnum_of hd).1] at hv; exact hv
    · obtain ⟨v, hv, hd⟩ := g i hi 1 (.int l[i].n) (by omega) rfl
      rw [(dnum_of hd).1] at hv; exact hv
    · obtain ⟨v, hv, hd⟩ := g i hi 2 (.int l[i].at_) (by omega) rfl
      rw [(dnum_of hd).1] at hv; exact hv
    · obtain ⟨v, hv, hd⟩ := g i hi 3 (.str l[i].name) (by omega) rfl
      rw [(dstr_of hd).1] at hv; exact hv
    · obtain ⟨i, hi, rfl⟩ := List.getElem_of_mem hx'
      obtain ⟨v, hv, hd⟩ := g i hi 3 (.str l[i].name) (by omega) rfl
      exact (dstr_of hd).2
theorem items_block {w : World} {a : Option Addr} {l : List It} (h : Fx.ItemsAt w a l) {R : Nat} (hR : w.heap.size ≤ R) : ∀ b' off, l ≠ [] → a = some ⟨b', off, none⟩ → b' ≠ R := by
  intro b' off hl e
  rcases h with h | ⟨b, o, e2, h⟩
  · exact absurd h hl
  · rw [e] at e2
    have := Option.some.inj e2
    injection this with e3 _
    have := h.lt
    omega
theorem Keeps.items {R : Nat} {w w' : World} {a : Option Addr} {l : List It} (h : Fx.ItemsAt w a l) (hk : Keeps R w w') (hR : ∀ b' off, l ≠ [] → a = some ⟨b', off, none⟩ → b' ≠ R) : Fx.ItemsAt w' a l := by
  rcases h with h | ⟨b, o, e, h⟩
  · exact Or.inl h
  · by_cases hl : l = []
    · exact Or.inl hl
    · have hne := hR b o hl e
      exact Or.inr ⟨b, o, e, Nat.lt_of_lt_of_le h.lt hk.size, fun i hi => (hk.cell h.lt hne).trans (h.kind i hi), fun i hi => (hk.cell h.lt hne).trans (h.num i hi), fun i hi => (hk.cell h.lt hne).trans (h.at_ i hi), fun i hi => (hk.cell h.lt hne).trans (h.name i hi)⟩
end Go.Proofs.YtndkhgakfodldaaGreatDoor
