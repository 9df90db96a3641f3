/- Closed facts of the whole program, each by itself. -/
import Derived.Test.YtdeplgkhmebalaaGreatDoorRows
import Derived.WalkKit
import Derived.ProofKit
import Derived.OpenShut
import Derived.Stop.Joined

namespace Go.Proofs.YtdeplgkhmebalaaGreatDoor
theorem laidOut_all : laidOutB Tryz.prog = true := by kernel_rfl
theorem mapsRowed_all : mapsRowed Tryz.prog = true := by kernel_rfl
end Go.Proofs.YtdeplgkhmebalaaGreatDoor
