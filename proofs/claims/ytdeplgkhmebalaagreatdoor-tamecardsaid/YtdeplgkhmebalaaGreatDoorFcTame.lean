/- Closed facts of one function, each by itself. -/
import Derived.Test.YtdeplgkhmebalaaGreatDoorP02

namespace Go.Proofs.YtdeplgkhmebalaaGreatDoor.cTame
theorem inpl : (Rows.tameRow.inPlace == Tryz.prog.inPlace 14) = true := by kernel_rfl
theorem unf : (Rows.tameRow.unfollowed == Tryz.prog.unfollowed 14) = true := by kernel_rfl
theorem recu : (Rows.tameRow.recurses == Tryz.prog.recurses 14) = true := by kernel_rfl
theorem named : (Rows.tameRow.named == Tryz.prog.varsNamed 14) = true := by kernel_rfl
theorem closed : joinedFacts Tryz.prog 14 Tryz.f14 Rows.tameSpec Rows.tameRow = true := by
  unfold joinedFacts
  rw [laidOut_all, mapsRowed_all, inpl, unf, recu, named]
  kernel_rfl
end Go.Proofs.YtdeplgkhmebalaaGreatDoor.cTame
