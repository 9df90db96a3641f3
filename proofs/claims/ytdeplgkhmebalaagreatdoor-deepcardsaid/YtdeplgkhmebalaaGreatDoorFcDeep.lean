/- Closed facts of one function, each by itself. -/
import Derived.Test.YtdeplgkhmebalaaGreatDoorP02

namespace Go.Proofs.YtdeplgkhmebalaaGreatDoor.cDeep
theorem inpl : (Rows.deepRow.inPlace == Tryz.prog.inPlace 8) = true := by kernel_rfl
theorem unf : (Rows.deepRow.unfollowed == Tryz.prog.unfollowed 8) = true := by kernel_rfl
theorem recu : (Rows.deepRow.recurses == Tryz.prog.recurses 8) = true := by kernel_rfl
theorem named : (Rows.deepRow.named == Tryz.prog.varsNamed 8) = true := by kernel_rfl
theorem closed : joinedFacts Tryz.prog 8 Tryz.f8 Rows.deepSpec Rows.deepRow = true := by
  unfold joinedFacts
  rw [laidOut_all, mapsRowed_all, inpl, unf, recu, named]
  kernel_rfl
end Go.Proofs.YtdeplgkhmebalaaGreatDoor.cDeep
