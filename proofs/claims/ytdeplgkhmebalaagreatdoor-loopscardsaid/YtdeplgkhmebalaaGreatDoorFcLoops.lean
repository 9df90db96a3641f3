/- Closed facts of one function, each by itself. -/
import Derived.Test.YtdeplgkhmebalaaGreatDoorP02

namespace Go.Proofs.YtdeplgkhmebalaaGreatDoor.cLoops
theorem inpl : (Rows.loopsRow.inPlace == Tryz.prog.inPlace 11) = true := by kernel_rfl
theorem unf : (Rows.loopsRow.unfollowed == Tryz.prog.unfollowed 11) = true := by kernel_rfl
theorem recu : (Rows.loopsRow.recurses == Tryz.prog.recurses 11) = true := by kernel_rfl
theorem named : (Rows.loopsRow.named == Tryz.prog.varsNamed 11) = true := by kernel_rfl
theorem closed : joinedFacts Tryz.prog 11 Tryz.f11 Rows.loopsSpec Rows.loopsRow = true := by
  unfold joinedFacts
  rw [laidOut_all, mapsRowed_all, inpl, unf, recu, named]
  kernel_rfl
end Go.Proofs.YtdeplgkhmebalaaGreatDoor.cLoops
