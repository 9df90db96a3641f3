/- Closed facts of the whole program, each by itself. -/
import Derived.Test.YtdeplgkhmebalaaGreatDoorRows
import Derived.WalkKit
import Derived.ProofKit
import Derived.OpenShut
import Derived.Stop.Joined

set_option linter.unusedSimpArgs false
set_option linter.unusedVariables false
namespace Go.Proofs.YtdeplgkhmebalaaGreatDoor
theorem laidOut_all:laidOutB Tryz.prog=true:=by kernel_rfl
theorem mapsRowed_all:mapsRowed Tryz.prog=true:=by kernel_rfl
end Go.Proofs.YtdeplgkhmebalaaGreatDoor

set_option linter.unusedSimpArgs false
set_option linter.unusedVariables false
namespace Go.Proofs.YtdeplgkhmebalaaGreatDoor.cLoads
theorem inpl:(Rows.loadsUptoRow.inPlace==Tryz.prog.inPlace 3)=true:=by kernel_rfl
theorem unf:(Rows.loadsUptoRow.unfollowed==Tryz.prog.unfollowed 3)=true:=by kernel_rfl
theorem recu:(Rows.loadsUptoRow.recurses==Tryz.prog.recurses 3)=true:=by kernel_rfl
theorem named:(Rows.loadsUptoRow.named==Tryz.prog.varsNamed 3)=true:=by kernel_rfl
theorem closed:joinedFacts Tryz.prog 3 Tryz.f3 (Rows.OpenSpec.upto Rows.loadsSpec).bare Rows.loadsUptoRow=true:=by
 unfold joinedFacts
 rw[laidOut_all,mapsRowed_all,inpl,unf,recu,named]
 kernel_rfl
end Go.Proofs.YtdeplgkhmebalaaGreatDoor.cLoads
