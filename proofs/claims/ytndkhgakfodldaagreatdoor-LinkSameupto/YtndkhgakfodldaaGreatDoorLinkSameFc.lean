import Derived.Test.YtndkhgakfodldaaGreatDoorLinkSameFb
set_option maxRecDepth 100000
namespace Go.Proofs.YtndkhgakfodldaaGreatDoor
theorem GN:joinedFacts Tryz.prog 14 Tryz.f14 (Rows.OpenSpec.upto Rows.linkSameSpec).bare Rows.linkSameUptoRow=true:=by
 unfold joinedFacts;rw [GJ,GK,GL,GM]
 kernel_rfl
end Go.Proofs.YtndkhgakfodldaaGreatDoor
