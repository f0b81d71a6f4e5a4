import Derived.Test.YtndkhgakfodldaaGreatDoorXc
import Derived.Test.YtndkhgakfodldaaGreatDoorShelf
namespace Go.Proofs.YtndkhgakfodldaaGreatDoor
set_option maxRecDepth 100000
namespace Fx
open Go.RowKit Go.Shelf
theorem z5u:z11:=fun s W hs=>by
 have HC:Hid (Calls Tryz.prog 220 #[.string s] W fun e w'=>e = .returned (.string s)/\Below W.heap.size W w'):=Tryz.stringslite_Clone s W (by omega);go_enter Tryz.func173,Tryz.ntmps173
 go_wp2_with (go_at_call 220;refine HC.out.mono ?_;rintro e w' ⟨rfl,hb⟩;have HB:=hid hb;clear hb)
 go_returns
 exact ⟨rfl,HB.out⟩
end Fx
end Go.Proofs.YtndkhgakfodldaaGreatDoor
