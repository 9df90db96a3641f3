/- Closed facts of one function, each by itself. -/
import Derived.Test.YtdeplgkhmebalaaGreatDoorP02

namespace Go.Proofs.YtdeplgkhmebalaaGreatDoor.cKept
theorem inpl : (Rows.keptRow.inPlace == Tryz.prog.inPlace 13) = true := by kernel_rfl
theorem unf : (Rows.keptRow.unfollowed == Tryz.prog.unfollowed 13) = true := by kernel_rfl
theorem recu : (Rows.keptRow.recurses == Tryz.prog.recurses 13) = true := by kernel_rfl
theorem named : (Rows.keptRow.named == Tryz.prog.varsNamed 13) = true := by kernel_rfl
theorem closed : joinedFacts Tryz.prog 13 Tryz.f13 Rows.keptSpec Rows.keptRow = true := by
  unfold joinedFacts
  rw [laidOut_all, mapsRowed_all, inpl, unf, recu, named]
  kernel_rfl
end Go.Proofs.YtdeplgkhmebalaaGreatDoor.cKept
