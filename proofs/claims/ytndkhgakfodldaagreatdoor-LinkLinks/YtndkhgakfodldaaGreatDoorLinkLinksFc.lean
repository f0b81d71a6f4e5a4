import Derived.Test.YtndkhgakfodldaaGreatDoorLinkLinksFb
namespace Go.Proofs.YtndkhgakfodldaaGreatDoor
set_option maxRecDepth 100000
theorem zix:joinedFacts Tryz.prog 12 Tryz.f12 (OpenSpec.ofChange Rows.linkLinksSpec).bare Rows.linkLinksRow=true:=by
 unfold joinedFacts;rw [zpc,zpd,zpe,zpf]
 kernel_rfl
end Go.Proofs.YtndkhgakfodldaaGreatDoor
