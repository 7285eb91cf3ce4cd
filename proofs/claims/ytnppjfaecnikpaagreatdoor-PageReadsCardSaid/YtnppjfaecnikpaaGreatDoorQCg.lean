/- Walks: the document's seal. -/
import Derived.Test.YtnppjfaecnikpaaGreatDoorQCe
import Derived.Test.YtnppjfaecnikpaaGreatDoorQGBy
namespace Go.Proofs.YtnppjfaecnikpaaGreatDoor
open Go.RowKit Cm
attribute [local irreducible] Cm.shs Cm.nxt Cm.reg Cm.ext

theorem byteCells1 : (Tryz.prog.info? 5).map (fun i => (i.zero, i.size, i.bytes)) = some (some (.int .u8 0), 1, 1) := by kernel_rfl
theorem byteParts : ∃ i0, Tryz.prog.info? 5 = some i0 ∧ i0.zero = some (.int .u8 0) ∧ i0.size = 1 ∧ i0.bytes = 1 := by
  obtain ⟨i0, h, h1, h2, h3⟩ := info_parts byteCells1
  exact ⟨i0, h, h1, h2, h3⟩
end Go.Proofs.YtnppjfaecnikpaaGreatDoor
