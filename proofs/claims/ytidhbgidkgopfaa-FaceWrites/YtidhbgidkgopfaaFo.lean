/-
  The program's reader: numbers.
-/
import Derived.Test.YtidhbgidkgopfaaFn
namespace Go.Proofs.Ytidhbgidkgopfaa
open Go.RowKit Go.Shelf
set_option maxRecDepth 100000

def valStep (n : Int) (c : UInt8) : Int := wrap64 (n * 256 + c.toNat)
def valL (l : List UInt8) : Int := l.foldl valStep 0
theorem valL_succ (l : List UInt8) (k : Nat) (h : k < l.length) : valL (l.take (k + 1)) = valStep (valL (l.take k)) l[k] := by
  unfold valL
  rw [take_succ l k h, List.foldl_append]
  rfl
def pNum (l : List UInt8) : Option (Int × List UInt8) := (pTake 8 l).map (fun q => (valL q.1, q.2))

theorem conv_bytes (x : List UInt8) (W : World) : ∃ (cap : Nat) (W' : World), (convert 9 37 (.string (strOf x))).run Try.prog W = .ok (.slice (some ⟨W.heap.size, 0, none⟩) x.length cap) W' ∧ Below W.heap.size W W' ∧
    ∀ j (hj : j < x.length), W'.cell? ⟨W.heap.size, j, none⟩ = some (.int .u8 (x[j].toNat : Int)) := by
  have h := run_bytes_of_string (P := Try.prog) W 9 37 5 (strOf x) Try.underlying9 Try.underlying37 under5
  rw [strOf_size] at h
  refine ⟨_, _, h, ((Below.refl _ _).drew).alloc (Nat.le_refl _) _, fun j hj => ?_⟩
  have hd : (strOf x).data.size = x.length := by simp [strOf]
  have hr := bytesRow_at (strOf x) (grownCap W x.length 0 5) j (by rw [hd]; exact hj)
  have hn : ∀ o : Obj, (W.drew.alloc o).heap[W.heap.size]? = some o := fun o => by
    show (W.heap.push o)[W.heap.size]? = some o
    simp
  simp only [World.cell?, hn]
  rw [hr]
  simp [strOf]

set_option maxHeartbeats 800000 in
theorem Number_any (rb : Nat) (l : List UInt8) (w : World) (h : Rdr w rb l) (hl : l.length ≤ 1000000000000000) :
    Calls Try.prog 39 #[.pointer (some ⟨rb, 0, none⟩)] w fun e w' => REnd rb w (pNum l) intV e w' := by
  have HT := hid (take_any rb 8 l w h hl (by omega))
  cases hT : pTake 8 l with
  | none =>
    have HC : Hid (Calls Try.prog 38 #[.pointer (some ⟨rb, 0, none⟩), .int .i64 8] w fun e w' => e = .panicked shortP ∧ w.grownBy w' (some rb)) := HT.out.mono fun e w' h => h.of_none hT
    have HR : Hid (pNum l = none) := by show pNum l = none; unfold pNum; rw [hT]; rfl
    clear h HT
    go_enter Try.func39, Try.ntmps39
    go_wp2_with (go_at_call 38; refine HC.out.mono ?_; rintro e w' ⟨rfl, hg⟩; have HG := hid hg; clear hg)
    exact ⟨rfl, HG.out, Or.inl ⟨HR.out, rfl⟩⟩
  | some q =>
    obtain ⟨x, y⟩ := q
    have HC : Hid (Calls Try.prog 38 #[.pointer (some ⟨rb, 0, none⟩), .int .i64 8] w fun e w' => e = .returned (.string (strOf x)) ∧ w.grownBy w' (some rb) ∧ Rdr w' rb y) := HT.out.mono fun e w' h => h.of_some hT
    have HR : Hid (pNum l = some (valL x, y)) := by show pNum l = _; unfold pNum; rw [hT]; rfl
    have hx := (pTake_len hT).1
    have CV := hid (conv_bytes x)
    have HV := hid (fun k h => valL_succ x k h)
    clear h HT hT
    go_enter Try.func39, Try.ntmps39
    go_wp2_with (go_at_call 38; refine HC.out.mono ?_; rintro e w1 ⟨rfl, hg, hr⟩; have HG := hid hg; have HD := hid hr; clear hg hr; obtain ⟨cp, w2, hcv, hb2, hcells⟩ := CV.out w1; have HB2 := hid hb2; have HCells := hid hcells; have hz1 := hb2.size; clear hb2 hcells)
    have HG2 : Hid (w.grownBy w2 (some rb)) := grown_trans HG.out (grown_below _ HB2.out)
    have HD2 : Hid (Rdr w2 rb y) := HD.out.below HB2.out
    have HX := hid hx
    clear HG HD HC CV
    go_loopw [3, 5, 10] (fun u _ i wr => ∃ k : Nat, k ≤ 8 ∧ i = .int .i64 k ∧ u = .int .i64 (valL (x.take k)) ∧ wr = w2) (fun _ _ i _ => 8 - (intOf i).toNat)
    case atStart => exact ⟨0, Nat.zero_le _, rfl, rfl, rfl⟩
    case round =>
      obtain ⟨k, hk, rfl, rfl, rfl⟩ := hrel
      by_cases hlt : k < 8
      · have hk8 : k < x.length := by omega
        have hc := HCells.out k hk8
        have HS := hid (HV.out k hk8)
        have hq := x[k].toNat_lt
        have hu := u8_wrap x[k]
        generalize valL (x.take k) = n at *
        generalize x[k] = c at *
        go_wp2_with fail
        go_roundw
        case rel => exact ⟨k + 1, by omega, by go_num, by rw [or_byte _ _ (by omega) (by omega), HS.out]; rfl, trivial⟩
        case measure => simp [intOf]; omega
      · obtain rfl : k = 8 := by omega
        go_wp2_with fail
        go_returns
        refine ⟨HG2.out, Or.inr ⟨_, y, HR.out, ?_, HD2.out⟩⟩
        rw [List.take_of_length_le (by omega)]
        rfl

end Go.Proofs.Ytidhbgidkgopfaa
