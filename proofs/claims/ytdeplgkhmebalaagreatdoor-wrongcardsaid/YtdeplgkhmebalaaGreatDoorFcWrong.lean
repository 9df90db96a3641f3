/- Closed facts of one function, each by itself. -/
import Derived.Test.YtdeplgkhmebalaaGreatDoorP02

namespace Go.Proofs.YtdeplgkhmebalaaGreatDoor.cWrong
theorem inpl : (Rows.wrongRow.inPlace == Tryz.prog.inPlace 6) = true := by kernel_rfl
theorem unf : (Rows.wrongRow.unfollowed == Tryz.prog.unfollowed 6) = true := by kernel_rfl
theorem recu : (Rows.wrongRow.recurses == Tryz.prog.recurses 6) = true := by kernel_rfl
theorem named : (Rows.wrongRow.named == Tryz.prog.varsNamed 6) = true := by kernel_rfl
theorem closed : joinedFacts Tryz.prog 6 Tryz.f6 Rows.wrongSpec Rows.wrongRow = true := by
  unfold joinedFacts
  rw [laidOut_all, mapsRowed_all, inpl, unf, recu, named]
  kernel_rfl
end Go.Proofs.YtdeplgkhmebalaaGreatDoor.cWrong
