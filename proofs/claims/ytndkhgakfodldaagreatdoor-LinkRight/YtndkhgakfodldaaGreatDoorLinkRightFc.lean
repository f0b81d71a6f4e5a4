import Derived.Test.YtndkhgakfodldaaGreatDoorLinkRightFb
namespace Go.Proofs.YtndkhgakfodldaaGreatDoor
set_option maxRecDepth 100000
theorem zjj:joinedFacts Tryz.prog 13 Tryz.f13 (OpenSpec.ofChange Rows.linkRightSpec).bare Rows.linkRightRow=true:=by
 unfold joinedFacts;rw [zqb,zqc,zqd,zqe]
 kernel_rfl
end Go.Proofs.YtndkhgakfodldaaGreatDoor
