import Derived.Test.YtndkhgakfodldaaGreatDoorLinkLinksFb
set_option maxRecDepth 100000
namespace Go.Proofs.YtndkhgakfodldaaGreatDoor
theorem Ek:joinedFacts Tryz.prog 12 Tryz.f12 (OpenSpec.ofChange Rows.linkLinksSpec).bare Rows.linkLinksRow=true:=by
 unfold joinedFacts;rw [Eg,Eh,Ei,Ej]
 kernel_rfl
end Go.Proofs.YtndkhgakfodldaaGreatDoor
