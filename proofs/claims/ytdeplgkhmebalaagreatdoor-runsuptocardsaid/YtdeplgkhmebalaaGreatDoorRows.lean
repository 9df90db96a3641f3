/-
  NARROWER THAN 'FOR EVERY INPUT', by the rows' own cells (each row's printed sentence says how): Loads: laid · Runs: laid · Cut: laid · Wrong: laid · Reckons: laid · Deep: laid · Tables: laid · All: laid · Loops: laid · Cells: laid · Kept: laid · Tame: laid.
  DERIVED. THE GIVEN ROWS OF THIS SEAT. 12 by the template 'for every input the law returns true; each argument reads behind the call as it read before'; 0 by the template 'total and deterministic' (their statements: YtdeplgkhmebalaaGreatDoorTotals.lean).
  GIVEN WITH THE SEED: the statements are not yours to turn. If you find one false, say at which input.
  Laid BY PROGRAM, IN A SANDBOX (cutbox-rows.mjs): the forced cells as the released guide's own fill.sh prints them over the translation 669bfb58e68ffea0… (all of the seat's roots in one cut). By AI agents, Wed Nov 11 2026. No macro, syntax, notation, axiom, sorry.
-/
import Derived.Test.YtdeplgkhmebalaaGreatDoorChecked
import GoSem.Claim
import GoSem.ClaimJoined
import GoSem.ClaimMapViews
import Derived.JoinedTies
import Derived.KernelRfl
namespace Go.Proofs.YtdeplgkhmebalaaGreatDoor
/- THE CELL 'sum', in the pinned program and in every row, IS THE sha256 OF THE DUMP (.gsa) THAT YtdeplgkhmebalaaGreatDoorProg.lean LOADS. Nothing in Lean hashes anything: it is a label: what it is worth is what the hold of that sum in a sandbox is worth. -/
noncomputable def Tryz.pinned : Pinned := { name := "ytdeplgkhmebalaagreatdoor", sum := "669bfb58e68ffea03790c0c248962f9a711ed612144b8df701d28bf420addc1a", checked := Tryz.checked }
namespace Rows
def none {H : Type} : Left H := { results := [], args := [] }

/- WHAT THE LISTED PACKAGE-LEVEL VARIABLES READ AS WHEN THE CALL BEGINS. Each datum BY PROGRAM (the guide's laid-datum.mjs) off the statement by which the dump's own 'gosem.cut.vars' lays the variable. In a bare row this is a premise. The card (YtdeplgkhmebalaaGreatDoorCards.lean) ties it to the program's text. -/
def laid_math_bits_deBruijn64tab {H : Type} : DataW H := .agg [.lit (.int .u8 0), .lit (.int .u8 1), .lit (.int .u8 56), .lit (.int .u8 2), .lit (.int .u8 57), .lit (.int .u8 49), .lit (.int .u8 28), .lit (.int .u8 3), .lit (.int .u8 61), .lit (.int .u8 58), .lit (.int .u8 42), .lit (.int .u8 50), .lit (.int .u8 38), .lit (.int .u8 29), .lit (.int .u8 17), .lit (.int .u8 4), .lit (.int .u8 62), .lit (.int .u8 47), .lit (.int .u8 59), .lit (.int .u8 36), .lit (.int .u8 45), .lit (.int .u8 43), .lit (.int .u8 51), .lit (.int .u8 22), .lit (.int .u8 53), .lit (.int .u8 39), .lit (.int .u8 33), .lit (.int .u8 30), .lit (.int .u8 24), .lit (.int .u8 18), .lit (.int .u8 12), .lit (.int .u8 5), .lit (.int .u8 63), .lit (.int .u8 55), .lit (.int .u8 48), .lit (.int .u8 27), .lit (.int .u8 60), .lit (.int .u8 41), .lit (.int .u8 37), .lit (.int .u8 16), .lit (.int .u8 46), .lit (.int .u8 35), .lit (.int .u8 44), .lit (.int .u8 21), .lit (.int .u8 52), .lit (.int .u8 32), .lit (.int .u8 23), .lit (.int .u8 11), .lit (.int .u8 54), .lit (.int .u8 26), .lit (.int .u8 40), .lit (.int .u8 15), .lit (.int .u8 34), .lit (.int .u8 20), .lit (.int .u8 31), .lit (.int .u8 10), .lit (.int .u8 25), .lit (.int .u8 14), .lit (.int .u8 19), .lit (.int .u8 9), .lit (.int .u8 13), .lit (.int .u8 8), .lit (.int .u8 7), .lit (.int .u8 6)]
def laid_stoker_look_rows {H : Type} : DataW H := .slice [.agg [.lit (.int .u8 0), .lit (.int .u8 0), .lit (.int .i64 4), .lit (.string []), .lit (.string [])], .agg [.lit (.int .u8 1), .lit (.int .u8 1), .lit (.int .i64 0), .lit (.string []), .lit (.string [])], .agg [.lit (.int .u8 2), .lit (.int .u8 5), .lit (.int .i64 4), .lit (.string []), .lit (.string [])], .agg [.lit (.int .u8 11), .lit (.int .u8 16), .lit (.int .i64 4), .lit (.string []), .lit (.string [])], .agg [.lit (.int .u8 26), .lit (.int .u8 27), .lit (.int .i64 4), .lit (.string []), .lit (.string [])], .agg [.lit (.int .u8 32), .lit (.int .u8 36), .lit (.int .i64 4), .lit (.string []), .lit (.string [])], .agg [.lit (.int .u8 40), .lit (.int .u8 40), .lit (.int .i64 1), .lit (.string [127]), .lit (.string [127])], .agg [.lit (.int .u8 41), .lit (.int .u8 41), .lit (.int .i64 1), .lit (.string [127]), .lit (.string [126])], .agg [.lit (.int .u8 44), .lit (.int .u8 45), .lit (.int .i64 1), .lit (.string [127]), .lit (.string [127])], .agg [.lit (.int .u8 54), .lit (.int .u8 54), .lit (.int .i64 1), .lit (.string [127, 127]), .lit (.string [])], .agg [.lit (.int .u8 55), .lit (.int .u8 55), .lit (.int .i64 1), .lit (.string [127, 126]), .lit (.string [])], .agg [.lit (.int .u8 58), .lit (.int .u8 58), .lit (.int .i64 1), .lit (.string [127, 127]), .lit (.string [])], .agg [.lit (.int .u8 63), .lit (.int .u8 63), .lit (.int .i64 0), .lit (.string []), .lit (.string [127])], .agg [.lit (.int .u8 64), .lit (.int .u8 64), .lit (.int .i64 0), .lit (.string [127]), .lit (.string [127])], .agg [.lit (.int .u8 65), .lit (.int .u8 65), .lit (.int .i64 2), .lit (.string []), .lit (.string [127])], .agg [.lit (.int .u8 66), .lit (.int .u8 66), .lit (.int .i64 3), .lit (.string []), .lit (.string [126])], .agg [.lit (.int .u8 69), .lit (.int .u8 69), .lit (.int .i64 0), .lit (.string [127]), .lit (.string [127])], .agg [.lit (.int .u8 70), .lit (.int .u8 79), .lit (.int .i64 0), .lit (.string [127, 127]), .lit (.string [127])], .agg [.lit (.int .u8 80), .lit (.int .u8 80), .lit (.int .i64 0), .lit (.string [126]), .lit (.string [127])], .agg [.lit (.int .u8 81), .lit (.int .u8 90), .lit (.int .i64 0), .lit (.string [126, 126]), .lit (.string [127])], .agg [.lit (.int .u8 103), .lit (.int .u8 105), .lit (.int .i64 0), .lit (.string [127]), .lit (.string [127])], .agg [.lit (.int .u8 106), .lit (.int .u8 120), .lit (.int .i64 0), .lit (.string [127, 127]), .lit (.string [127])], .agg [.lit (.int .u8 121), .lit (.int .u8 123), .lit (.int .i64 0), .lit (.string [126]), .lit (.string [126])], .agg [.lit (.int .u8 124), .lit (.int .u8 138), .lit (.int .i64 0), .lit (.string [126, 126]), .lit (.string [126])], .agg [.lit (.int .u8 167), .lit (.int .u8 167), .lit (.int .i64 0), .lit (.string [126]), .lit (.string [127])], .agg [.lit (.int .u8 172), .lit (.int .u8 173), .lit (.int .i64 0), .lit (.string [127]), .lit (.string [126])], .agg [.lit (.int .u8 224), .lit (.int .u8 224), .lit (.int .i64 0), .lit (.string [126]), .lit (.string [126])], .agg [.lit (.int .u8 225), .lit (.int .u8 225), .lit (.int .i64 0), .lit (.string [126, 126]), .lit (.string [])]] []

/-- 'stokerlaw.Loads': WHATEVER THE INPUT: true; the input reads as it did. -/
def loadsSpec : ChangeSpec := { name := "loads", fn := fun _ => fun
  | [d] => { results := [.lit (.bool true)], args := [d] }
  | _ => none }
def loadsRow : OpenClaim := { program := "ytdeplgkhmebalaagreatdoor", sum := "669bfb58e68ffea03790c0c248962f9a711ed612144b8df701d28bf420addc1a", func := "stoker/stokerlaw.Loads", spec := "loads", inPlace := ["internal/bytealg.IndexByteString", "(*internal/sync.Mutex).Lock", "internal/race.Disable", "sync/atomic.CompareAndSwapInt32", "internal/race.Enable", "internal/race.Acquire", "(*internal/sync.Mutex).lockSlow", "internal/sync.runtime_canSpin", "internal/sync.runtime_doSpin", "internal/sync.throw", "internal/sync.runtime_nanotime", "internal/sync.runtime_SemacquireMutex", "sync/atomic.AddInt32", "(*internal/sync.Mutex).Unlock", "internal/race.ReleaseMerge", "(*internal/sync.Mutex).unlockSlow", "internal/sync.fatal", "internal/sync.runtime_Semrelease"], unfollowed := true, recurses := true, named := ["stoker/look.rows", "math/bits.deBruijn64tab"], apart := false, laid := [("math/bits.deBruijn64tab", laid_math_bits_deBruijn64tab), ("stoker/look.rows", laid_stoker_look_rows)] }
def LoadsSaid : Prop := loadsRow.holds Tryz.pinned (OpenSpec.ofChange loadsSpec)

/-- ITS FALSE NEIGHBOUR: 'it returns false'. Refute it at one input. -/
def loadsWrong : ChangeSpec := { name := "loads", fn := fun _ => fun
  | [d] => { results := [.lit (.bool false)], args := [d] }
  | _ => none }
def LoadsWrongFalsely : Prop := loadsRow.holds Tryz.pinned (OpenSpec.ofChange loadsWrong)

/-- 'stokerlaw.Runs': WHATEVER THE INPUT: true; the input reads as it did. -/
def runsSpec : ChangeSpec := { name := "runs", fn := fun _ => fun
  | [d] => { results := [.lit (.bool true)], args := [d] }
  | _ => none }
def runsRow : OpenClaim := { program := "ytdeplgkhmebalaagreatdoor", sum := "669bfb58e68ffea03790c0c248962f9a711ed612144b8df701d28bf420addc1a", func := "stoker/stokerlaw.Runs", spec := "runs", inPlace := ["internal/bytealg.IndexByteString", "(*internal/sync.Mutex).Lock", "internal/race.Disable", "sync/atomic.CompareAndSwapInt32", "internal/race.Enable", "internal/race.Acquire", "(*internal/sync.Mutex).lockSlow", "internal/sync.runtime_canSpin", "internal/sync.runtime_doSpin", "internal/sync.throw", "internal/sync.runtime_nanotime", "internal/sync.runtime_SemacquireMutex", "sync/atomic.AddInt32", "(*internal/sync.Mutex).Unlock", "internal/race.ReleaseMerge", "(*internal/sync.Mutex).unlockSlow", "internal/sync.fatal", "internal/sync.runtime_Semrelease"], unfollowed := true, recurses := true, named := ["stoker/look.rows", "math/bits.deBruijn64tab"], apart := false, laid := [("math/bits.deBruijn64tab", laid_math_bits_deBruijn64tab), ("stoker/look.rows", laid_stoker_look_rows)] }
def RunsSaid : Prop := runsRow.holds Tryz.pinned (OpenSpec.ofChange runsSpec)

/-- ITS FALSE NEIGHBOUR: 'it returns false'. Refute it at one input. -/
def runsWrong : ChangeSpec := { name := "runs", fn := fun _ => fun
  | [d] => { results := [.lit (.bool false)], args := [d] }
  | _ => none }
def RunsWrongFalsely : Prop := runsRow.holds Tryz.pinned (OpenSpec.ofChange runsWrong)

/-- 'stokerkeep.Cut': WHATEVER THE INPUT: true; the input reads as it did. -/
def cutSpec : ChangeSpec := { name := "cut", fn := fun _ => fun
  | [d1, d2] => { results := [.lit (.bool true)], args := [d1, d2] }
  | _ => none }
def cutRow : OpenClaim := { program := "ytdeplgkhmebalaagreatdoor", sum := "669bfb58e68ffea03790c0c248962f9a711ed612144b8df701d28bf420addc1a", func := "stoker/stokerkeep.Cut", spec := "cut", inPlace := ["internal/bytealg.IndexByteString", "(*internal/sync.Mutex).Lock", "internal/race.Disable", "sync/atomic.CompareAndSwapInt32", "internal/race.Enable", "internal/race.Acquire", "(*internal/sync.Mutex).lockSlow", "internal/sync.runtime_canSpin", "internal/sync.runtime_doSpin", "internal/sync.throw", "internal/sync.runtime_nanotime", "internal/sync.runtime_SemacquireMutex", "sync/atomic.AddInt32", "(*internal/sync.Mutex).Unlock", "internal/race.ReleaseMerge", "(*internal/sync.Mutex).unlockSlow", "internal/sync.fatal", "internal/sync.runtime_Semrelease"], unfollowed := true, recurses := true, named := ["stoker/look.rows", "math/bits.deBruijn64tab"], apart := false, laid := [("math/bits.deBruijn64tab", laid_math_bits_deBruijn64tab), ("stoker/look.rows", laid_stoker_look_rows)] }
def CutSaid : Prop := cutRow.holds Tryz.pinned (OpenSpec.ofChange cutSpec)

/-- ITS FALSE NEIGHBOUR: 'it returns false'. Refute it at one input. -/
def cutWrong : ChangeSpec := { name := "cut", fn := fun _ => fun
  | [d1, d2] => { results := [.lit (.bool false)], args := [d1, d2] }
  | _ => none }
def CutWrongFalsely : Prop := cutRow.holds Tryz.pinned (OpenSpec.ofChange cutWrong)

/-- 'stokerkeep.Wrong': WHATEVER THE INPUT: true; the input reads as it did. -/
def wrongSpec : ChangeSpec := { name := "wrong", fn := fun _ => fun
  | [d1, d2] => { results := [.lit (.bool true)], args := [d1, d2] }
  | _ => none }
def wrongRow : OpenClaim := { program := "ytdeplgkhmebalaagreatdoor", sum := "669bfb58e68ffea03790c0c248962f9a711ed612144b8df701d28bf420addc1a", func := "stoker/stokerkeep.Wrong", spec := "wrong", inPlace := ["internal/bytealg.IndexByteString", "(*internal/sync.Mutex).Lock", "internal/race.Disable", "sync/atomic.CompareAndSwapInt32", "internal/race.Enable", "internal/race.Acquire", "(*internal/sync.Mutex).lockSlow", "internal/sync.runtime_canSpin", "internal/sync.runtime_doSpin", "internal/sync.throw", "internal/sync.runtime_nanotime", "internal/sync.runtime_SemacquireMutex", "sync/atomic.AddInt32", "(*internal/sync.Mutex).Unlock", "internal/race.ReleaseMerge", "(*internal/sync.Mutex).unlockSlow", "internal/sync.fatal", "internal/sync.runtime_Semrelease"], unfollowed := true, recurses := true, named := ["stoker/look.rows", "math/bits.deBruijn64tab"], apart := false, laid := [("math/bits.deBruijn64tab", laid_math_bits_deBruijn64tab), ("stoker/look.rows", laid_stoker_look_rows)] }
def WrongSaid : Prop := wrongRow.holds Tryz.pinned (OpenSpec.ofChange wrongSpec)

/-- ITS FALSE NEIGHBOUR: 'it returns false'. Refute it at one input. -/
def wrongWrong : ChangeSpec := { name := "wrong", fn := fun _ => fun
  | [d1, d2] => { results := [.lit (.bool false)], args := [d1, d2] }
  | _ => none }
def WrongWrongFalsely : Prop := wrongRow.holds Tryz.pinned (OpenSpec.ofChange wrongWrong)

/-- 'stokerkeep.Reckons': WHATEVER THE INPUT: true; the input reads as it did. -/
def reckonsSpec : ChangeSpec := { name := "reckons", fn := fun _ => fun
  | [d1, d2] => { results := [.lit (.bool true)], args := [d1, d2] }
  | _ => none }
def reckonsRow : OpenClaim := { program := "ytdeplgkhmebalaagreatdoor", sum := "669bfb58e68ffea03790c0c248962f9a711ed612144b8df701d28bf420addc1a", func := "stoker/stokerkeep.Reckons", spec := "reckons", inPlace := ["internal/bytealg.IndexByteString", "(*internal/sync.Mutex).Lock", "internal/race.Disable", "sync/atomic.CompareAndSwapInt32", "internal/race.Enable", "internal/race.Acquire", "(*internal/sync.Mutex).lockSlow", "internal/sync.runtime_canSpin", "internal/sync.runtime_doSpin", "internal/sync.throw", "internal/sync.runtime_nanotime", "internal/sync.runtime_SemacquireMutex", "sync/atomic.AddInt32", "(*internal/sync.Mutex).Unlock", "internal/race.ReleaseMerge", "(*internal/sync.Mutex).unlockSlow", "internal/sync.fatal", "internal/sync.runtime_Semrelease"], unfollowed := true, recurses := true, named := ["stoker/look.rows", "math/bits.deBruijn64tab"], apart := false, laid := [("math/bits.deBruijn64tab", laid_math_bits_deBruijn64tab), ("stoker/look.rows", laid_stoker_look_rows)] }
def ReckonsSaid : Prop := reckonsRow.holds Tryz.pinned (OpenSpec.ofChange reckonsSpec)

/-- ITS FALSE NEIGHBOUR: 'it returns false'. Refute it at one input. -/
def reckonsWrong : ChangeSpec := { name := "reckons", fn := fun _ => fun
  | [d1, d2] => { results := [.lit (.bool false)], args := [d1, d2] }
  | _ => none }
def ReckonsWrongFalsely : Prop := reckonsRow.holds Tryz.pinned (OpenSpec.ofChange reckonsWrong)

/-- 'stokerkeep.Deep': WHATEVER THE INPUT: true; the input reads as it did. -/
def deepSpec : ChangeSpec := { name := "deep", fn := fun _ => fun
  | [d] => { results := [.lit (.bool true)], args := [d] }
  | _ => none }
def deepRow : OpenClaim := { program := "ytdeplgkhmebalaagreatdoor", sum := "669bfb58e68ffea03790c0c248962f9a711ed612144b8df701d28bf420addc1a", func := "stoker/stokerkeep.Deep", spec := "deep", inPlace := ["internal/bytealg.IndexByteString", "(*internal/sync.Mutex).Lock", "internal/race.Disable", "sync/atomic.CompareAndSwapInt32", "internal/race.Enable", "internal/race.Acquire", "(*internal/sync.Mutex).lockSlow", "internal/sync.runtime_canSpin", "internal/sync.runtime_doSpin", "internal/sync.throw", "internal/sync.runtime_nanotime", "internal/sync.runtime_SemacquireMutex", "sync/atomic.AddInt32", "(*internal/sync.Mutex).Unlock", "internal/race.ReleaseMerge", "(*internal/sync.Mutex).unlockSlow", "internal/sync.fatal", "internal/sync.runtime_Semrelease"], unfollowed := true, recurses := true, named := ["stoker/look.rows", "math/bits.deBruijn64tab"], apart := false, laid := [("math/bits.deBruijn64tab", laid_math_bits_deBruijn64tab), ("stoker/look.rows", laid_stoker_look_rows)] }
def DeepSaid : Prop := deepRow.holds Tryz.pinned (OpenSpec.ofChange deepSpec)

/-- ITS FALSE NEIGHBOUR: 'it returns false'. Refute it at one input. -/
def deepWrong : ChangeSpec := { name := "deep", fn := fun _ => fun
  | [d] => { results := [.lit (.bool false)], args := [d] }
  | _ => none }
def DeepWrongFalsely : Prop := deepRow.holds Tryz.pinned (OpenSpec.ofChange deepWrong)

/-- 'stokerkeep.Tables': WHATEVER THE INPUT: true; the input reads as it did. -/
def tablesSpec : ChangeSpec := { name := "tables", fn := fun _ => fun
  | [d1, d2] => { results := [.lit (.bool true)], args := [d1, d2] }
  | _ => none }
def tablesRow : OpenClaim := { program := "ytdeplgkhmebalaagreatdoor", sum := "669bfb58e68ffea03790c0c248962f9a711ed612144b8df701d28bf420addc1a", func := "stoker/stokerkeep.Tables", spec := "tables", inPlace := ["internal/bytealg.IndexByteString", "(*internal/sync.Mutex).Lock", "internal/race.Disable", "sync/atomic.CompareAndSwapInt32", "internal/race.Enable", "internal/race.Acquire", "(*internal/sync.Mutex).lockSlow", "internal/sync.runtime_canSpin", "internal/sync.runtime_doSpin", "internal/sync.throw", "internal/sync.runtime_nanotime", "internal/sync.runtime_SemacquireMutex", "sync/atomic.AddInt32", "(*internal/sync.Mutex).Unlock", "internal/race.ReleaseMerge", "(*internal/sync.Mutex).unlockSlow", "internal/sync.fatal", "internal/sync.runtime_Semrelease"], unfollowed := true, recurses := true, named := ["stoker/look.rows", "math/bits.deBruijn64tab"], apart := false, laid := [("math/bits.deBruijn64tab", laid_math_bits_deBruijn64tab), ("stoker/look.rows", laid_stoker_look_rows)] }
def TablesSaid : Prop := tablesRow.holds Tryz.pinned (OpenSpec.ofChange tablesSpec)

/-- ITS FALSE NEIGHBOUR: 'it returns false'. Refute it at one input. -/
def tablesWrong : ChangeSpec := { name := "tables", fn := fun _ => fun
  | [d1, d2] => { results := [.lit (.bool false)], args := [d1, d2] }
  | _ => none }
def TablesWrongFalsely : Prop := tablesRow.holds Tryz.pinned (OpenSpec.ofChange tablesWrong)

/-- 'stokerlaw.All': WHATEVER THE INPUT: true; the input reads as it did. -/
def allSpec : ChangeSpec := { name := "all", fn := fun _ => fun
  | [d] => { results := [.lit (.bool true)], args := [d] }
  | _ => none }
def allRow : OpenClaim := { program := "ytdeplgkhmebalaagreatdoor", sum := "669bfb58e68ffea03790c0c248962f9a711ed612144b8df701d28bf420addc1a", func := "stoker/stokerlaw.All", spec := "all", inPlace := ["internal/bytealg.IndexByteString", "(*internal/sync.Mutex).Lock", "internal/race.Disable", "sync/atomic.CompareAndSwapInt32", "internal/race.Enable", "internal/race.Acquire", "(*internal/sync.Mutex).lockSlow", "internal/sync.runtime_canSpin", "internal/sync.runtime_doSpin", "internal/sync.throw", "internal/sync.runtime_nanotime", "internal/sync.runtime_SemacquireMutex", "sync/atomic.AddInt32", "(*internal/sync.Mutex).Unlock", "internal/race.ReleaseMerge", "(*internal/sync.Mutex).unlockSlow", "internal/sync.fatal", "internal/sync.runtime_Semrelease"], unfollowed := true, recurses := true, named := ["stoker/look.rows", "math/bits.deBruijn64tab"], apart := false, laid := [("math/bits.deBruijn64tab", laid_math_bits_deBruijn64tab), ("stoker/look.rows", laid_stoker_look_rows)] }
def AllSaid : Prop := allRow.holds Tryz.pinned (OpenSpec.ofChange allSpec)

/-- ITS FALSE NEIGHBOUR: 'it returns false'. Refute it at one input. -/
def allWrong : ChangeSpec := { name := "all", fn := fun _ => fun
  | [d] => { results := [.lit (.bool false)], args := [d] }
  | _ => none }
def AllWrongFalsely : Prop := allRow.holds Tryz.pinned (OpenSpec.ofChange allWrong)

/-- 'stokerkeep.Loops': WHATEVER THE INPUT: true; the input reads as it did. -/
def loopsSpec : ChangeSpec := { name := "loops", fn := fun _ => fun
  | [d1, d2] => { results := [.lit (.bool true)], args := [d1, d2] }
  | _ => none }
def loopsRow : OpenClaim := { program := "ytdeplgkhmebalaagreatdoor", sum := "669bfb58e68ffea03790c0c248962f9a711ed612144b8df701d28bf420addc1a", func := "stoker/stokerkeep.Loops", spec := "loops", inPlace := ["internal/bytealg.IndexByteString", "(*internal/sync.Mutex).Lock", "internal/race.Disable", "sync/atomic.CompareAndSwapInt32", "internal/race.Enable", "internal/race.Acquire", "(*internal/sync.Mutex).lockSlow", "internal/sync.runtime_canSpin", "internal/sync.runtime_doSpin", "internal/sync.throw", "internal/sync.runtime_nanotime", "internal/sync.runtime_SemacquireMutex", "sync/atomic.AddInt32", "(*internal/sync.Mutex).Unlock", "internal/race.ReleaseMerge", "(*internal/sync.Mutex).unlockSlow", "internal/sync.fatal", "internal/sync.runtime_Semrelease"], unfollowed := true, recurses := true, named := ["stoker/look.rows", "math/bits.deBruijn64tab"], apart := false, laid := [("math/bits.deBruijn64tab", laid_math_bits_deBruijn64tab), ("stoker/look.rows", laid_stoker_look_rows)] }
def LoopsSaid : Prop := loopsRow.holds Tryz.pinned (OpenSpec.ofChange loopsSpec)

/-- ITS FALSE NEIGHBOUR: 'it returns false'. Refute it at one input. -/
def loopsWrong : ChangeSpec := { name := "loops", fn := fun _ => fun
  | [d1, d2] => { results := [.lit (.bool false)], args := [d1, d2] }
  | _ => none }
def LoopsWrongFalsely : Prop := loopsRow.holds Tryz.pinned (OpenSpec.ofChange loopsWrong)

/-- 'stokerkeep.Cells': WHATEVER THE INPUT: true; the input reads as it did. -/
def cellsSpec : ChangeSpec := { name := "cells", fn := fun _ => fun
  | [d1, d2, d3, d4, d5] => { results := [.lit (.bool true)], args := [d1, d2, d3, d4, d5] }
  | _ => none }
def cellsRow : OpenClaim := { program := "ytdeplgkhmebalaagreatdoor", sum := "669bfb58e68ffea03790c0c248962f9a711ed612144b8df701d28bf420addc1a", func := "stoker/stokerkeep.Cells", spec := "cells", inPlace := ["internal/bytealg.IndexByteString", "(*internal/sync.Mutex).Lock", "internal/race.Disable", "sync/atomic.CompareAndSwapInt32", "internal/race.Enable", "internal/race.Acquire", "(*internal/sync.Mutex).lockSlow", "internal/sync.runtime_canSpin", "internal/sync.runtime_doSpin", "internal/sync.throw", "internal/sync.runtime_nanotime", "internal/sync.runtime_SemacquireMutex", "sync/atomic.AddInt32", "(*internal/sync.Mutex).Unlock", "internal/race.ReleaseMerge", "(*internal/sync.Mutex).unlockSlow", "internal/sync.fatal", "internal/sync.runtime_Semrelease"], unfollowed := true, recurses := true, named := ["stoker/look.rows", "math/bits.deBruijn64tab"], apart := false, laid := [("math/bits.deBruijn64tab", laid_math_bits_deBruijn64tab), ("stoker/look.rows", laid_stoker_look_rows)] }
def CellsSaid : Prop := cellsRow.holds Tryz.pinned (OpenSpec.ofChange cellsSpec)

/-- ITS FALSE NEIGHBOUR: 'it returns false'. Refute it at one input. -/
def cellsWrong : ChangeSpec := { name := "cells", fn := fun _ => fun
  | [d1, d2, d3, d4, d5] => { results := [.lit (.bool false)], args := [d1, d2, d3, d4, d5] }
  | _ => none }
def CellsWrongFalsely : Prop := cellsRow.holds Tryz.pinned (OpenSpec.ofChange cellsWrong)

/-- 'stokerkeep.Kept': WHATEVER THE INPUT: true; the input reads as it did. -/
def keptSpec : ChangeSpec := { name := "kept", fn := fun _ => fun
  | [d1, d2] => { results := [.lit (.bool true)], args := [d1, d2] }
  | _ => none }
def keptRow : OpenClaim := { program := "ytdeplgkhmebalaagreatdoor", sum := "669bfb58e68ffea03790c0c248962f9a711ed612144b8df701d28bf420addc1a", func := "stoker/stokerkeep.Kept", spec := "kept", inPlace := ["internal/bytealg.IndexByteString", "(*internal/sync.Mutex).Lock", "internal/race.Disable", "sync/atomic.CompareAndSwapInt32", "internal/race.Enable", "internal/race.Acquire", "(*internal/sync.Mutex).lockSlow", "internal/sync.runtime_canSpin", "internal/sync.runtime_doSpin", "internal/sync.throw", "internal/sync.runtime_nanotime", "internal/sync.runtime_SemacquireMutex", "sync/atomic.AddInt32", "(*internal/sync.Mutex).Unlock", "internal/race.ReleaseMerge", "(*internal/sync.Mutex).unlockSlow", "internal/sync.fatal", "internal/sync.runtime_Semrelease"], unfollowed := true, recurses := true, named := ["stoker/look.rows", "math/bits.deBruijn64tab"], apart := false, laid := [("math/bits.deBruijn64tab", laid_math_bits_deBruijn64tab), ("stoker/look.rows", laid_stoker_look_rows)] }
def KeptSaid : Prop := keptRow.holds Tryz.pinned (OpenSpec.ofChange keptSpec)

/-- ITS FALSE NEIGHBOUR: 'it returns false'. Refute it at one input. -/
def keptWrong : ChangeSpec := { name := "kept", fn := fun _ => fun
  | [d1, d2] => { results := [.lit (.bool false)], args := [d1, d2] }
  | _ => none }
def KeptWrongFalsely : Prop := keptRow.holds Tryz.pinned (OpenSpec.ofChange keptWrong)

/-- 'stokerkeep.Tame': WHATEVER THE INPUT: true; the input reads as it did. -/
def tameSpec : ChangeSpec := { name := "tame", fn := fun _ => fun
  | [d1, d2] => { results := [.lit (.bool true)], args := [d1, d2] }
  | _ => none }
def tameRow : OpenClaim := { program := "ytdeplgkhmebalaagreatdoor", sum := "669bfb58e68ffea03790c0c248962f9a711ed612144b8df701d28bf420addc1a", func := "stoker/stokerkeep.Tame", spec := "tame", inPlace := ["internal/bytealg.IndexByteString", "(*internal/sync.Mutex).Lock", "internal/race.Disable", "sync/atomic.CompareAndSwapInt32", "internal/race.Enable", "internal/race.Acquire", "(*internal/sync.Mutex).lockSlow", "internal/sync.runtime_canSpin", "internal/sync.runtime_doSpin", "internal/sync.throw", "internal/sync.runtime_nanotime", "internal/sync.runtime_SemacquireMutex", "sync/atomic.AddInt32", "(*internal/sync.Mutex).Unlock", "internal/race.ReleaseMerge", "(*internal/sync.Mutex).unlockSlow", "internal/sync.fatal", "internal/sync.runtime_Semrelease"], unfollowed := true, recurses := true, named := ["stoker/look.rows", "math/bits.deBruijn64tab"], apart := false, laid := [("math/bits.deBruijn64tab", laid_math_bits_deBruijn64tab), ("stoker/look.rows", laid_stoker_look_rows)] }
def TameSaid : Prop := tameRow.holds Tryz.pinned (OpenSpec.ofChange tameSpec)

/-- ITS FALSE NEIGHBOUR: 'it returns false'. Refute it at one input. -/
def tameWrong : ChangeSpec := { name := "tame", fn := fun _ => fun
  | [d1, d2] => { results := [.lit (.bool false)], args := [d1, d2] }
  | _ => none }
def TameWrongFalsely : Prop := tameRow.holds Tryz.pinned (OpenSpec.ofChange tameWrong)

/- THE SECOND FORM. 'bulk': how many values and letters a reading holds, each counted each time it is reached (what is shared counts as often as it is met; a slice's spare places count too). A statement '..UptoSaid' is the law's where the arguments, and the package variables that the reading takes, are together of bulk at most 1048576: NARROWER than '..Said'. Prove '..Said' where nothing that the law and all that it calls make is longer than what came in: it says more and counts as full. Else prove '..UptoSaid'. A law counts once. -/
mutual
def uptoBulk {H : Type} : DataW H → Nat
  | .lit (.string bytes) => bytes.length + 1
  | .lit _ => 1
  | .nil => 1
  | .ptr d => uptoBulk d + 1
  | .slice elems spare => uptoBulkAll elems + uptoBulkAll spare + 1
  | .agg parts => uptoBulkAll parts + 1
  | .iface _ d => uptoBulk d + 1
  | .map entries => uptoBulkEntries entries + 1
  | .held _ => 1
def uptoBulkAll {H : Type} : List (DataW H) → Nat
  | [] => 0
  | d :: r => uptoBulk d + uptoBulkAll r
def uptoBulkEntries {H : Type} : List (Lit × DataW H) → Nat
  | [] => 0
  | x :: r => uptoBulkEntry x + uptoBulkEntries r
def uptoBulkEntry {H : Type} : Lit × DataW H → Nat
  | (.string bytes, d) => bytes.length + uptoBulk d + 1
  | (_, d) => uptoBulk d + 1
 end
def uptoSmall : (H : Type) → List (DataW H) → Bool := fun _ ds => decide (uptoBulkAll ds ≤ 1048576)
def OpenSpec.upto (s : _root_.Go.ChangeSpec) : _root_.Go.OpenSpec := { _root_.Go.OpenSpec.ofChange s with cond := some uptoSmall }

/-- 'stokerlaw.Loads', WHERE WHAT IT READS IS OF BULK AT MOST 1048576: true; the input reads as it did. -/
def loadsUptoRow : OpenClaim := { program := "ytdeplgkhmebalaagreatdoor", sum := "669bfb58e68ffea03790c0c248962f9a711ed612144b8df701d28bf420addc1a", func := "stoker/stokerlaw.Loads", spec := "loads", inPlace := ["internal/bytealg.IndexByteString", "(*internal/sync.Mutex).Lock", "internal/race.Disable", "sync/atomic.CompareAndSwapInt32", "internal/race.Enable", "internal/race.Acquire", "(*internal/sync.Mutex).lockSlow", "internal/sync.runtime_canSpin", "internal/sync.runtime_doSpin", "internal/sync.throw", "internal/sync.runtime_nanotime", "internal/sync.runtime_SemacquireMutex", "sync/atomic.AddInt32", "(*internal/sync.Mutex).Unlock", "internal/race.ReleaseMerge", "(*internal/sync.Mutex).unlockSlow", "internal/sync.fatal", "internal/sync.runtime_Semrelease"], unfollowed := true, recurses := true, named := ["stoker/look.rows", "math/bits.deBruijn64tab"], apart := false, laid := [("math/bits.deBruijn64tab", laid_math_bits_deBruijn64tab), ("stoker/look.rows", laid_stoker_look_rows)], narrowed := true }
def LoadsUptoSaid : Prop := loadsUptoRow.holds Tryz.pinned (OpenSpec.upto loadsSpec)

/-- 'stokerlaw.Runs', WHERE WHAT IT READS IS OF BULK AT MOST 1048576: true; the input reads as it did. -/
def runsUptoRow : OpenClaim := { program := "ytdeplgkhmebalaagreatdoor", sum := "669bfb58e68ffea03790c0c248962f9a711ed612144b8df701d28bf420addc1a", func := "stoker/stokerlaw.Runs", spec := "runs", inPlace := ["internal/bytealg.IndexByteString", "(*internal/sync.Mutex).Lock", "internal/race.Disable", "sync/atomic.CompareAndSwapInt32", "internal/race.Enable", "internal/race.Acquire", "(*internal/sync.Mutex).lockSlow", "internal/sync.runtime_canSpin", "internal/sync.runtime_doSpin", "internal/sync.throw", "internal/sync.runtime_nanotime", "internal/sync.runtime_SemacquireMutex", "sync/atomic.AddInt32", "(*internal/sync.Mutex).Unlock", "internal/race.ReleaseMerge", "(*internal/sync.Mutex).unlockSlow", "internal/sync.fatal", "internal/sync.runtime_Semrelease"], unfollowed := true, recurses := true, named := ["stoker/look.rows", "math/bits.deBruijn64tab"], apart := false, laid := [("math/bits.deBruijn64tab", laid_math_bits_deBruijn64tab), ("stoker/look.rows", laid_stoker_look_rows)], narrowed := true }
def RunsUptoSaid : Prop := runsUptoRow.holds Tryz.pinned (OpenSpec.upto runsSpec)

/-- 'stokerkeep.Cut', WHERE WHAT IT READS IS OF BULK AT MOST 1048576: true; the input reads as it did. -/
def cutUptoRow : OpenClaim := { program := "ytdeplgkhmebalaagreatdoor", sum := "669bfb58e68ffea03790c0c248962f9a711ed612144b8df701d28bf420addc1a", func := "stoker/stokerkeep.Cut", spec := "cut", inPlace := ["internal/bytealg.IndexByteString", "(*internal/sync.Mutex).Lock", "internal/race.Disable", "sync/atomic.CompareAndSwapInt32", "internal/race.Enable", "internal/race.Acquire", "(*internal/sync.Mutex).lockSlow", "internal/sync.runtime_canSpin", "internal/sync.runtime_doSpin", "internal/sync.throw", "internal/sync.runtime_nanotime", "internal/sync.runtime_SemacquireMutex", "sync/atomic.AddInt32", "(*internal/sync.Mutex).Unlock", "internal/race.ReleaseMerge", "(*internal/sync.Mutex).unlockSlow", "internal/sync.fatal", "internal/sync.runtime_Semrelease"], unfollowed := true, recurses := true, named := ["stoker/look.rows", "math/bits.deBruijn64tab"], apart := false, laid := [("math/bits.deBruijn64tab", laid_math_bits_deBruijn64tab), ("stoker/look.rows", laid_stoker_look_rows)], narrowed := true }
def CutUptoSaid : Prop := cutUptoRow.holds Tryz.pinned (OpenSpec.upto cutSpec)

/-- 'stokerkeep.Wrong', WHERE WHAT IT READS IS OF BULK AT MOST 1048576: true; the input reads as it did. -/
def wrongUptoRow : OpenClaim := { program := "ytdeplgkhmebalaagreatdoor", sum := "669bfb58e68ffea03790c0c248962f9a711ed612144b8df701d28bf420addc1a", func := "stoker/stokerkeep.Wrong", spec := "wrong", inPlace := ["internal/bytealg.IndexByteString", "(*internal/sync.Mutex).Lock", "internal/race.Disable", "sync/atomic.CompareAndSwapInt32", "internal/race.Enable", "internal/race.Acquire", "(*internal/sync.Mutex).lockSlow", "internal/sync.runtime_canSpin", "internal/sync.runtime_doSpin", "internal/sync.throw", "internal/sync.runtime_nanotime", "internal/sync.runtime_SemacquireMutex", "sync/atomic.AddInt32", "(*internal/sync.Mutex).Unlock", "internal/race.ReleaseMerge", "(*internal/sync.Mutex).unlockSlow", "internal/sync.fatal", "internal/sync.runtime_Semrelease"], unfollowed := true, recurses := true, named := ["stoker/look.rows", "math/bits.deBruijn64tab"], apart := false, laid := [("math/bits.deBruijn64tab", laid_math_bits_deBruijn64tab), ("stoker/look.rows", laid_stoker_look_rows)], narrowed := true }
def WrongUptoSaid : Prop := wrongUptoRow.holds Tryz.pinned (OpenSpec.upto wrongSpec)

/-- 'stokerkeep.Reckons', WHERE WHAT IT READS IS OF BULK AT MOST 1048576: true; the input reads as it did. -/
def reckonsUptoRow : OpenClaim := { program := "ytdeplgkhmebalaagreatdoor", sum := "669bfb58e68ffea03790c0c248962f9a711ed612144b8df701d28bf420addc1a", func := "stoker/stokerkeep.Reckons", spec := "reckons", inPlace := ["internal/bytealg.IndexByteString", "(*internal/sync.Mutex).Lock", "internal/race.Disable", "sync/atomic.CompareAndSwapInt32", "internal/race.Enable", "internal/race.Acquire", "(*internal/sync.Mutex).lockSlow", "internal/sync.runtime_canSpin", "internal/sync.runtime_doSpin", "internal/sync.throw", "internal/sync.runtime_nanotime", "internal/sync.runtime_SemacquireMutex", "sync/atomic.AddInt32", "(*internal/sync.Mutex).Unlock", "internal/race.ReleaseMerge", "(*internal/sync.Mutex).unlockSlow", "internal/sync.fatal", "internal/sync.runtime_Semrelease"], unfollowed := true, recurses := true, named := ["stoker/look.rows", "math/bits.deBruijn64tab"], apart := false, laid := [("math/bits.deBruijn64tab", laid_math_bits_deBruijn64tab), ("stoker/look.rows", laid_stoker_look_rows)], narrowed := true }
def ReckonsUptoSaid : Prop := reckonsUptoRow.holds Tryz.pinned (OpenSpec.upto reckonsSpec)

/-- 'stokerkeep.Deep', WHERE WHAT IT READS IS OF BULK AT MOST 1048576: true; the input reads as it did. -/
def deepUptoRow : OpenClaim := { program := "ytdeplgkhmebalaagreatdoor", sum := "669bfb58e68ffea03790c0c248962f9a711ed612144b8df701d28bf420addc1a", func := "stoker/stokerkeep.Deep", spec := "deep", inPlace := ["internal/bytealg.IndexByteString", "(*internal/sync.Mutex).Lock", "internal/race.Disable", "sync/atomic.CompareAndSwapInt32", "internal/race.Enable", "internal/race.Acquire", "(*internal/sync.Mutex).lockSlow", "internal/sync.runtime_canSpin", "internal/sync.runtime_doSpin", "internal/sync.throw", "internal/sync.runtime_nanotime", "internal/sync.runtime_SemacquireMutex", "sync/atomic.AddInt32", "(*internal/sync.Mutex).Unlock", "internal/race.ReleaseMerge", "(*internal/sync.Mutex).unlockSlow", "internal/sync.fatal", "internal/sync.runtime_Semrelease"], unfollowed := true, recurses := true, named := ["stoker/look.rows", "math/bits.deBruijn64tab"], apart := false, laid := [("math/bits.deBruijn64tab", laid_math_bits_deBruijn64tab), ("stoker/look.rows", laid_stoker_look_rows)], narrowed := true }
def DeepUptoSaid : Prop := deepUptoRow.holds Tryz.pinned (OpenSpec.upto deepSpec)

/-- 'stokerkeep.Tables', WHERE WHAT IT READS IS OF BULK AT MOST 1048576: true; the input reads as it did. -/
def tablesUptoRow : OpenClaim := { program := "ytdeplgkhmebalaagreatdoor", sum := "669bfb58e68ffea03790c0c248962f9a711ed612144b8df701d28bf420addc1a", func := "stoker/stokerkeep.Tables", spec := "tables", inPlace := ["internal/bytealg.IndexByteString", "(*internal/sync.Mutex).Lock", "internal/race.Disable", "sync/atomic.CompareAndSwapInt32", "internal/race.Enable", "internal/race.Acquire", "(*internal/sync.Mutex).lockSlow", "internal/sync.runtime_canSpin", "internal/sync.runtime_doSpin", "internal/sync.throw", "internal/sync.runtime_nanotime", "internal/sync.runtime_SemacquireMutex", "sync/atomic.AddInt32", "(*internal/sync.Mutex).Unlock", "internal/race.ReleaseMerge", "(*internal/sync.Mutex).unlockSlow", "internal/sync.fatal", "internal/sync.runtime_Semrelease"], unfollowed := true, recurses := true, named := ["stoker/look.rows", "math/bits.deBruijn64tab"], apart := false, laid := [("math/bits.deBruijn64tab", laid_math_bits_deBruijn64tab), ("stoker/look.rows", laid_stoker_look_rows)], narrowed := true }
def TablesUptoSaid : Prop := tablesUptoRow.holds Tryz.pinned (OpenSpec.upto tablesSpec)

/-- 'stokerlaw.All', WHERE WHAT IT READS IS OF BULK AT MOST 1048576: true; the input reads as it did. -/
def allUptoRow : OpenClaim := { program := "ytdeplgkhmebalaagreatdoor", sum := "669bfb58e68ffea03790c0c248962f9a711ed612144b8df701d28bf420addc1a", func := "stoker/stokerlaw.All", spec := "all", inPlace := ["internal/bytealg.IndexByteString", "(*internal/sync.Mutex).Lock", "internal/race.Disable", "sync/atomic.CompareAndSwapInt32", "internal/race.Enable", "internal/race.Acquire", "(*internal/sync.Mutex).lockSlow", "internal/sync.runtime_canSpin", "internal/sync.runtime_doSpin", "internal/sync.throw", "internal/sync.runtime_nanotime", "internal/sync.runtime_SemacquireMutex", "sync/atomic.AddInt32", "(*internal/sync.Mutex).Unlock", "internal/race.ReleaseMerge", "(*internal/sync.Mutex).unlockSlow", "internal/sync.fatal", "internal/sync.runtime_Semrelease"], unfollowed := true, recurses := true, named := ["stoker/look.rows", "math/bits.deBruijn64tab"], apart := false, laid := [("math/bits.deBruijn64tab", laid_math_bits_deBruijn64tab), ("stoker/look.rows", laid_stoker_look_rows)], narrowed := true }
def AllUptoSaid : Prop := allUptoRow.holds Tryz.pinned (OpenSpec.upto allSpec)

/-- 'stokerkeep.Loops', WHERE WHAT IT READS IS OF BULK AT MOST 1048576: true; the input reads as it did. -/
def loopsUptoRow : OpenClaim := { program := "ytdeplgkhmebalaagreatdoor", sum := "669bfb58e68ffea03790c0c248962f9a711ed612144b8df701d28bf420addc1a", func := "stoker/stokerkeep.Loops", spec := "loops", inPlace := ["internal/bytealg.IndexByteString", "(*internal/sync.Mutex).Lock", "internal/race.Disable", "sync/atomic.CompareAndSwapInt32", "internal/race.Enable", "internal/race.Acquire", "(*internal/sync.Mutex).lockSlow", "internal/sync.runtime_canSpin", "internal/sync.runtime_doSpin", "internal/sync.throw", "internal/sync.runtime_nanotime", "internal/sync.runtime_SemacquireMutex", "sync/atomic.AddInt32", "(*internal/sync.Mutex).Unlock", "internal/race.ReleaseMerge", "(*internal/sync.Mutex).unlockSlow", "internal/sync.fatal", "internal/sync.runtime_Semrelease"], unfollowed := true, recurses := true, named := ["stoker/look.rows", "math/bits.deBruijn64tab"], apart := false, laid := [("math/bits.deBruijn64tab", laid_math_bits_deBruijn64tab), ("stoker/look.rows", laid_stoker_look_rows)], narrowed := true }
def LoopsUptoSaid : Prop := loopsUptoRow.holds Tryz.pinned (OpenSpec.upto loopsSpec)

/-- 'stokerkeep.Cells', WHERE WHAT IT READS IS OF BULK AT MOST 1048576: true; the input reads as it did. -/
def cellsUptoRow : OpenClaim := { program := "ytdeplgkhmebalaagreatdoor", sum := "669bfb58e68ffea03790c0c248962f9a711ed612144b8df701d28bf420addc1a", func := "stoker/stokerkeep.Cells", spec := "cells", inPlace := ["internal/bytealg.IndexByteString", "(*internal/sync.Mutex).Lock", "internal/race.Disable", "sync/atomic.CompareAndSwapInt32", "internal/race.Enable", "internal/race.Acquire", "(*internal/sync.Mutex).lockSlow", "internal/sync.runtime_canSpin", "internal/sync.runtime_doSpin", "internal/sync.throw", "internal/sync.runtime_nanotime", "internal/sync.runtime_SemacquireMutex", "sync/atomic.AddInt32", "(*internal/sync.Mutex).Unlock", "internal/race.ReleaseMerge", "(*internal/sync.Mutex).unlockSlow", "internal/sync.fatal", "internal/sync.runtime_Semrelease"], unfollowed := true, recurses := true, named := ["stoker/look.rows", "math/bits.deBruijn64tab"], apart := false, laid := [("math/bits.deBruijn64tab", laid_math_bits_deBruijn64tab), ("stoker/look.rows", laid_stoker_look_rows)], narrowed := true }
def CellsUptoSaid : Prop := cellsUptoRow.holds Tryz.pinned (OpenSpec.upto cellsSpec)

/-- 'stokerkeep.Kept', WHERE WHAT IT READS IS OF BULK AT MOST 1048576: true; the input reads as it did. -/
def keptUptoRow : OpenClaim := { program := "ytdeplgkhmebalaagreatdoor", sum := "669bfb58e68ffea03790c0c248962f9a711ed612144b8df701d28bf420addc1a", func := "stoker/stokerkeep.Kept", spec := "kept", inPlace := ["internal/bytealg.IndexByteString", "(*internal/sync.Mutex).Lock", "internal/race.Disable", "sync/atomic.CompareAndSwapInt32", "internal/race.Enable", "internal/race.Acquire", "(*internal/sync.Mutex).lockSlow", "internal/sync.runtime_canSpin", "internal/sync.runtime_doSpin", "internal/sync.throw", "internal/sync.runtime_nanotime", "internal/sync.runtime_SemacquireMutex", "sync/atomic.AddInt32", "(*internal/sync.Mutex).Unlock", "internal/race.ReleaseMerge", "(*internal/sync.Mutex).unlockSlow", "internal/sync.fatal", "internal/sync.runtime_Semrelease"], unfollowed := true, recurses := true, named := ["stoker/look.rows", "math/bits.deBruijn64tab"], apart := false, laid := [("math/bits.deBruijn64tab", laid_math_bits_deBruijn64tab), ("stoker/look.rows", laid_stoker_look_rows)], narrowed := true }
def KeptUptoSaid : Prop := keptUptoRow.holds Tryz.pinned (OpenSpec.upto keptSpec)

/-- 'stokerkeep.Tame', WHERE WHAT IT READS IS OF BULK AT MOST 1048576: true; the input reads as it did. -/
def tameUptoRow : OpenClaim := { program := "ytdeplgkhmebalaagreatdoor", sum := "669bfb58e68ffea03790c0c248962f9a711ed612144b8df701d28bf420addc1a", func := "stoker/stokerkeep.Tame", spec := "tame", inPlace := ["internal/bytealg.IndexByteString", "(*internal/sync.Mutex).Lock", "internal/race.Disable", "sync/atomic.CompareAndSwapInt32", "internal/race.Enable", "internal/race.Acquire", "(*internal/sync.Mutex).lockSlow", "internal/sync.runtime_canSpin", "internal/sync.runtime_doSpin", "internal/sync.throw", "internal/sync.runtime_nanotime", "internal/sync.runtime_SemacquireMutex", "sync/atomic.AddInt32", "(*internal/sync.Mutex).Unlock", "internal/race.ReleaseMerge", "(*internal/sync.Mutex).unlockSlow", "internal/sync.fatal", "internal/sync.runtime_Semrelease"], unfollowed := true, recurses := true, named := ["stoker/look.rows", "math/bits.deBruijn64tab"], apart := false, laid := [("math/bits.deBruijn64tab", laid_math_bits_deBruijn64tab), ("stoker/look.rows", laid_stoker_look_rows)], narrowed := true }
def TameUptoSaid : Prop := tameUptoRow.holds Tryz.pinned (OpenSpec.upto tameSpec)

end Rows
end Go.Proofs.YtdeplgkhmebalaaGreatDoor
