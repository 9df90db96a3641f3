/- Closed facts of one function, each by itself. -/
import Derived.Test.YtdeplgkhmebalaaGreatDoorP02

namespace Go.Proofs.YtdeplgkhmebalaaGreatDoor.cCut
theorem inpl : (Rows.cutRow.inPlace == Tryz.prog.inPlace 5) = true := by kernel_rfl
theorem unf : (Rows.cutRow.unfollowed == Tryz.prog.unfollowed 5) = true := by kernel_rfl
theorem recu : (Rows.cutRow.recurses == Tryz.prog.recurses 5) = true := by kernel_rfl
theorem named : (Rows.cutRow.named == Tryz.prog.varsNamed 5) = true := by kernel_rfl
theorem closed : joinedFacts Tryz.prog 5 Tryz.f5 Rows.cutSpec Rows.cutRow = true := by
  unfold joinedFacts
  rw [laidOut_all, mapsRowed_all, inpl, unf, recu, named]
  kernel_rfl
end Go.Proofs.YtdeplgkhmebalaaGreatDoor.cCut
