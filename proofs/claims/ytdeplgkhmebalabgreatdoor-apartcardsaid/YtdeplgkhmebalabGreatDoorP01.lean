/- The numbers under which the program holds the library's lock, and that it holds it. -/
import Derived.Test.YtdeplgkhmebalabGreatDoorProg
import Derived.Conc.RwLib
import Derived.Conc.MuLone
import Derived.KernelRfl

namespace Go.Proofs.YtdeplgkhmebalabGreatDoor
abbrev muLink : Go.Conc.Locks.MuLink := { lock := 26, unlock := 27, ilock := 44, iunlock := 45, lockSlow := 68, unlockSlow := 71, disable := 64, enable := 66, acquire := 67, relMerge := 69, cas32 := 65, add32 := 70, tMutex := 82, tIMutex := 80, tPMutex := 111, tPIMutex := 138, tPI32 := 140, tUP := 142, tNoCopy := 77, tU32 := 78 }
theorem muLib : Go.Conc.Locks.MuLib Tryz.prog muLink :=
  ⟨Tryz.func26, Tryz.func27, Tryz.func44, Tryz.func45, Tryz.func64, Tryz.func66, Tryz.func67, Tryz.func69, Tryz.func65, Tryz.func70, Tryz.underlying80, Tryz.runUnderlying80, Tryz.sizeOf80, Tryz.isAgg80, Tryz.zeroValue80, Tryz.underlying82, Tryz.runUnderlying82, Tryz.sizeOf82, Tryz.isAgg82, Tryz.zeroValue82, Tryz.underlying111, Tryz.runUnderlying111, Tryz.sizeOf111, Tryz.isAgg111, Tryz.zeroValue111, Tryz.underlying138, Tryz.runUnderlying138, Tryz.sizeOf138, Tryz.isAgg138, Tryz.zeroValue138, Tryz.underlying140, Tryz.runUnderlying140, Tryz.sizeOf140, Tryz.isAgg140, Tryz.zeroValue140, Tryz.underlying142, Tryz.runUnderlying142, Tryz.sizeOf142, Tryz.isAgg142, Tryz.zeroValue142, Tryz.underlying77, Tryz.runUnderlying77, Tryz.sizeOf77, Tryz.isAgg77, Tryz.zeroValue77, Tryz.underlying21, Tryz.runUnderlying21, Tryz.sizeOf21, Tryz.isAgg21, Tryz.zeroValue21, (by kernel_rfl)⟩
end Go.Proofs.YtdeplgkhmebalabGreatDoor
