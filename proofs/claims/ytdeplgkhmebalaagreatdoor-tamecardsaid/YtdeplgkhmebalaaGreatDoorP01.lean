/- The numbers under which the program holds the library's lock, and that it holds it. -/
import Derived.Test.YtdeplgkhmebalaaGreatDoorProg
import Derived.Conc.RwLib
import Derived.Conc.MuLone
import Derived.KernelRfl

namespace Go.Proofs.YtdeplgkhmebalaaGreatDoor
abbrev muLink : Go.Conc.Locks.MuLink := { lock := 47, unlock := 48, ilock := 67, iunlock := 68, lockSlow := 98, unlockSlow := 101, disable := 94, enable := 96, acquire := 97, relMerge := 99, cas32 := 95, add32 := 100, tMutex := 107, tIMutex := 105, tPMutex := 166, tPIMutex := 202, tPI32 := 204, tUP := 206, tNoCopy := 103, tU32 := 101 }
theorem muLib : Go.Conc.Locks.MuLib Tryz.prog muLink :=
  ⟨Tryz.func47, Tryz.func48, Tryz.func67, Tryz.func68, Tryz.func94, Tryz.func96, Tryz.func97, Tryz.func99, Tryz.func95, Tryz.func100, Tryz.underlying105, Tryz.runUnderlying105, Tryz.sizeOf105, Tryz.isAgg105, Tryz.zeroValue105, Tryz.underlying107, Tryz.runUnderlying107, Tryz.sizeOf107, Tryz.isAgg107, Tryz.zeroValue107, Tryz.underlying166, Tryz.runUnderlying166, Tryz.sizeOf166, Tryz.isAgg166, Tryz.zeroValue166, Tryz.underlying202, Tryz.runUnderlying202, Tryz.sizeOf202, Tryz.isAgg202, Tryz.zeroValue202, Tryz.underlying204, Tryz.runUnderlying204, Tryz.sizeOf204, Tryz.isAgg204, Tryz.zeroValue204, Tryz.underlying206, Tryz.runUnderlying206, Tryz.sizeOf206, Tryz.isAgg206, Tryz.zeroValue206, Tryz.underlying103, Tryz.runUnderlying103, Tryz.sizeOf103, Tryz.isAgg103, Tryz.zeroValue103, Tryz.underlying21, Tryz.runUnderlying21, Tryz.sizeOf21, Tryz.isAgg21, Tryz.zeroValue21, (by kernel_rfl)⟩
end Go.Proofs.YtdeplgkhmebalaaGreatDoor
