/- Closed facts of one function, each by itself. -/
import Derived.Test.YtdeplgkhmebalabGreatDoorP02

namespace Go.Proofs.YtdeplgkhmebalabGreatDoor.cFirm
theorem inpl : (Rows.firmRow.inPlace == Tryz.prog.inPlace 3) = true := by kernel_rfl
theorem unf : (Rows.firmRow.unfollowed == Tryz.prog.unfollowed 3) = true := by kernel_rfl
theorem recu : (Rows.firmRow.recurses == Tryz.prog.recurses 3) = true := by kernel_rfl
theorem named : (Rows.firmRow.named == Tryz.prog.varsNamed 3) = true := by kernel_rfl
theorem closed : joinedFacts Tryz.prog 3 Tryz.f3 Rows.firmSpec Rows.firmRow = true := by
  unfold joinedFacts
  rw [laidOut_all, mapsRowed_all, inpl, unf, recu, named]
  kernel_rfl
end Go.Proofs.YtdeplgkhmebalabGreatDoor.cFirm
