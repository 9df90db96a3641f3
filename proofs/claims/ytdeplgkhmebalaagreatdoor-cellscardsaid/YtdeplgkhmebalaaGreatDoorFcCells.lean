/- Closed facts of one function, each by itself. -/
import Derived.Test.YtdeplgkhmebalaaGreatDoorP02

namespace Go.Proofs.YtdeplgkhmebalaaGreatDoor.cCells
theorem inpl : (Rows.cellsRow.inPlace == Tryz.prog.inPlace 12) = true := by kernel_rfl
theorem unf : (Rows.cellsRow.unfollowed == Tryz.prog.unfollowed 12) = true := by kernel_rfl
theorem recu : (Rows.cellsRow.recurses == Tryz.prog.recurses 12) = true := by kernel_rfl
theorem named : (Rows.cellsRow.named == Tryz.prog.varsNamed 12) = true := by kernel_rfl
theorem closed : joinedFacts Tryz.prog 12 Tryz.f12 Rows.cellsSpec Rows.cellsRow = true := by
  unfold joinedFacts
  rw [laidOut_all, mapsRowed_all, inpl, unf, recu, named]
  kernel_rfl
end Go.Proofs.YtdeplgkhmebalaaGreatDoor.cCells
