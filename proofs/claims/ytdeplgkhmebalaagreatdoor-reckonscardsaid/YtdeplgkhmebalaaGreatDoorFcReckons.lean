/- Closed facts of one function, each by itself. -/
import Derived.Test.YtdeplgkhmebalaaGreatDoorP02

namespace Go.Proofs.YtdeplgkhmebalaaGreatDoor.cReckons
theorem inpl : (Rows.reckonsRow.inPlace == Tryz.prog.inPlace 7) = true := by kernel_rfl
theorem unf : (Rows.reckonsRow.unfollowed == Tryz.prog.unfollowed 7) = true := by kernel_rfl
theorem recu : (Rows.reckonsRow.recurses == Tryz.prog.recurses 7) = true := by kernel_rfl
theorem named : (Rows.reckonsRow.named == Tryz.prog.varsNamed 7) = true := by kernel_rfl
theorem closed : joinedFacts Tryz.prog 7 Tryz.f7 Rows.reckonsSpec Rows.reckonsRow = true := by
  unfold joinedFacts
  rw [laidOut_all, mapsRowed_all, inpl, unf, recu, named]
  kernel_rfl
end Go.Proofs.YtdeplgkhmebalaaGreatDoor.cReckons
