/-
  Texts and numbers as bytes: the plain mathematics; the reference's.
-/
import Derived.Test.YtidhbgidkgopfaaFd
import Derived.Lib.AppendStr
import Derived.Laws.IdiomStrings
namespace Go.Proofs.Ytidhbgidkgopfaa
open Go.RowKit Go.Shelf
set_option maxRecDepth 100000

def strOf (l : List UInt8) : ByteArray := ⟨l.toArray⟩
theorem strOf_list (l : List UInt8) : (strOf l).data.toList = l := by simp [strOf]
theorem strOf_back (s : ByteArray) : strOf s.data.toList = s := by simp [strOf]
theorem strOf_size (l : List UInt8) : (strOf l).size = l.length := by simp [strOf, ByteArray.size]
theorem strOf_append (a b : List UInt8) : strOf a ++ strOf b = strOf (a ++ b) := by
  have h : (strOf a ++ strOf b).data.toList = a ++ b := by simp [strOf]
  rw [← strOf_back (strOf a ++ strOf b), h]
theorem ret_str {a b : ByteArray} (h : a = b) : Ending.returned (.string a) = .returned (.string b) := by rw [h]
def byteOf (n : Int) : UInt8 := UInt8.ofNat (n % 256).toNat
theorem byteOf_nat (n : Int) : ((byteOf n).toNat : Int) = n % 256 := by
  have h0 : 0 ≤ n % 256 := Int.emod_nonneg _ (by omega)
  have h1 : n % 256 < 256 := Int.emod_lt_of_pos _ (by omega)
  unfold byteOf
  rw [UInt8.toNat_ofNat']
  omega
def byteV (c : UInt8) : Value := .int .u8 c.toNat
def bytesV (l : List UInt8) : List Value := l.map byteV
theorem bytesV_len (l : List UInt8) : (bytesV l).length = l.length := by simp [bytesV]
theorem bytesV_app (a b : List UInt8) : bytesV (a ++ b) = bytesV a ++ bytesV b := by simp [bytesV]
theorem bytesV_str (s : ByteArray) : Lib.strCells s = bytesV s.data.toList := rfl
theorem byteV_of (n : Int) : byteV (byteOf n) = .int .u8 (n % 256) := by unfold byteV; rw [byteOf_nat]
def numB (n : Int) : List UInt8 := [byteOf (n / 72057594037927936), byteOf (n / 281474976710656), byteOf (n / 1099511627776), byteOf (n / 4294967296), byteOf (n / 16777216), byteOf (n / 65536), byteOf (n / 256), byteOf n]
def textB (s : ByteArray) : List UInt8 := byteOf s.size :: s.data.toList
def itemB (i : It) : List UInt8 := byteOf i.kind :: (textB i.name ++ (numB i.n ++ numB i.at_))
def faceB (f : Fc) : List UInt8 := textB f.name ++ byteOf f.items.length :: f.items.flatMap itemB
theorem under5 : Try.prog.underlying 5 = some (.int .u8) := Try.underlying5

theorem conv_at (W : World) (b c : Nat) (l : List UInt8) (h : ∀ j (hj : j < l.length), W.cell? ⟨b, j, none⟩ = some (.int .u8 (l[j].toNat : Int))) : (convert 37 9 (.slice (some ⟨b, 0, none⟩) l.length c)).run Try.prog W = .ok (.string (strOf l)) W :=
  run_convert_bytes_back W 37 9 5 ⟨b, 0, none⟩ c l Try.underlying37 under5 Try.underlying9 (fun j hj => by
    rw [show (⟨b, 0, none⟩ : Addr).add j = ⟨b, j, none⟩ from by unfold Addr.add; split <;> simp_all]
    exact h j hj)
theorem conv_one (W : World) (b c : Nat) (x : Int) (h : W.cell? ⟨b, 0, none⟩ = some (.int .u8 (x % 256))) : (convert 37 9 (.slice (some ⟨b, 0, none⟩) 1 c)).run Try.prog W = .ok (.string (strOf [byteOf x])) W := by
  refine conv_at W b c [byteOf x] (fun j hj => ?_)
  have : j = 0 := by simpa using hj
  subst this
  rw [h]
  exact congrArg some (byteV_of x).symm

set_option maxHeartbeats 400000 in
theorem textBytes_any (s : ByteArray) (w : World) (hs : s.size ≤ 1000000000000000) :
    Calls Try.prog 18 #[.string s] w fun e w' => e = .returned (.string (strOf (textB s))) ∧ Below w.heap.size w w' := by
  have hcv := conv_one (w.alloc (.cells #[.int .u8 ((s.size : Int) % 256)] 5)) w.heap.size 1 s.size (by simp)
  have HS : Hid (strOf [byteOf s.size] ++ s = strOf (textB s)) := by
    show strOf [byteOf s.size] ++ s = strOf (textB s)
    conv => lhs; rw [← strOf_back s]
    rw [strOf_append]
    rfl
  have hln : ¬ 9223372036854775807 < (strOf [byteOf s.size]).size + s.size := by rw [strOf_size]; simp; omega
  go_enter Try.func18, Try.ntmps18
  go_wp2_with fail
  go_ret
  exact ⟨ret_str HS.out, (Below.refl _ _).alloc (Nat.le_refl _) _⟩

set_option maxHeartbeats 400000 in
theorem numBytes_any (n : Int) (w : World) :
    Calls Try.prog 19 #[.int .i64 n] w fun e w' => e = .returned (.string (strOf (numB n))) ∧ Below w.heap.size w w' := by
  have hcv : (convert 37 9 (.slice (some ⟨w.heap.size, 0, none⟩) 8 8)).run Try.prog (w.alloc (.cells #[.int .u8 (n / 72057594037927936 % 256), .int .u8 (n / 281474976710656 % 256), .int .u8 (n / 1099511627776 % 256), .int .u8 (n / 4294967296 % 256), .int .u8 (n / 16777216 % 256), .int .u8 (n / 65536 % 256), .int .u8 (n / 256 % 256), .int .u8 (n % 256)] 5)) = .ok (.string (strOf (numB n))) (w.alloc (.cells #[.int .u8 (n / 72057594037927936 % 256), .int .u8 (n / 281474976710656 % 256), .int .u8 (n / 1099511627776 % 256), .int .u8 (n / 4294967296 % 256), .int .u8 (n / 16777216 % 256), .int .u8 (n / 65536 % 256), .int .u8 (n / 256 % 256), .int .u8 (n % 256)] 5)) := by
    have e : (#[.int .u8 (n / 72057594037927936 % 256), .int .u8 (n / 281474976710656 % 256), .int .u8 (n / 1099511627776 % 256), .int .u8 (n / 4294967296 % 256), .int .u8 (n / 16777216 % 256), .int .u8 (n / 65536 % 256), .int .u8 (n / 256 % 256), .int .u8 (n % 256)] : Array Value) = (bytesV (numB n)).toArray := by simp [bytesV, numB, byteV_of]
    rw [e]
    refine conv_at _ w.heap.size 8 (numB n) (fun j hj => ?_)
    rw [Lib.cell_of_heap (_root_.Go.heap_alloc_new w _)]
    simp [bytesV, byteV, hj]
  generalize hX : w.alloc (.cells #[.int .u8 (n / 72057594037927936 % 256), .int .u8 (n / 281474976710656 % 256), .int .u8 (n / 1099511627776 % 256), .int .u8 (n / 4294967296 % 256), .int .u8 (n / 16777216 % 256), .int .u8 (n / 65536 % 256), .int .u8 (n / 256 % 256), .int .u8 (n % 256)] 5) = X at hcv
  have HB : Hid (Below w.heap.size w X) := by rw [← hX]; exact (Below.refl _ _).alloc (Nat.le_refl _) _
  generalize numB n = nb at *
  go_enter Try.func19, Try.ntmps19
  go_wp2_with fail
  go_ret
  exact ⟨rfl, HB.out⟩

end Go.Proofs.Ytidhbgidkgopfaa
