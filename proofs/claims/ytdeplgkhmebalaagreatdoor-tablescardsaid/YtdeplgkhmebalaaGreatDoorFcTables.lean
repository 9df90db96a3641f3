/- Closed facts of one function, each by itself. -/
import Derived.Test.YtdeplgkhmebalaaGreatDoorP02

namespace Go.Proofs.YtdeplgkhmebalaaGreatDoor.cTables
theorem inpl : (Rows.tablesRow.inPlace == Tryz.prog.inPlace 9) = true := by kernel_rfl
theorem unf : (Rows.tablesRow.unfollowed == Tryz.prog.unfollowed 9) = true := by kernel_rfl
theorem recu : (Rows.tablesRow.recurses == Tryz.prog.recurses 9) = true := by kernel_rfl
theorem named : (Rows.tablesRow.named == Tryz.prog.varsNamed 9) = true := by kernel_rfl
theorem closed : joinedFacts Tryz.prog 9 Tryz.f9 Rows.tablesSpec Rows.tablesRow = true := by
  unfold joinedFacts
  rw [laidOut_all, mapsRowed_all, inpl, unf, recu, named]
  kernel_rfl
end Go.Proofs.YtdeplgkhmebalaaGreatDoor.cTables
