/- Closed facts of one function, each by itself. -/
import Derived.Test.YtdeplgkhmebalabGreatDoorP02

namespace Go.Proofs.YtdeplgkhmebalabGreatDoor.cApart
theorem inpl : (Rows.apartRow.inPlace == Tryz.prog.inPlace 4) = true := by kernel_rfl
theorem unf : (Rows.apartRow.unfollowed == Tryz.prog.unfollowed 4) = true := by kernel_rfl
theorem recu : (Rows.apartRow.recurses == Tryz.prog.recurses 4) = true := by kernel_rfl
theorem named : (Rows.apartRow.named == Tryz.prog.varsNamed 4) = true := by kernel_rfl
theorem closed : joinedFacts Tryz.prog 4 Tryz.f4 Rows.apartSpec Rows.apartRow = true := by
  unfold joinedFacts
  rw [laidOut_all, mapsRowed_all, inpl, unf, recu, named]
  kernel_rfl
end Go.Proofs.YtdeplgkhmebalabGreatDoor.cApart
