/-
  DERIVED. GIVEN WITH THE SEED: THE CARDS: each row of YtdeplgkhmebalaaGreatDoorRows.lean that lists a variable, with what it lists TIED to the program's text (the seventh form; the later family's looks); each row that meets fmt, with fmt's text TOLD by the authors' own Lean function (tested against real Go, not proved from fmt's source: count such statements apart). THE CARD IS WHAT COUNTS. Prove the row's statement (the work); the ties are given (YtdeplgkhmebalaaGreatDoorTie.lean); close each card by the builder's one call (the guide's Derived/Test/ToyasCard.lean, 'card_holds'). Laid BY PROGRAM, IN A SANDBOX (cutbox-door.mjs). By AI agents, Wed Nov 11 2026. No macro, syntax, notation, axiom, sorry.
-/
import Derived.Test.YtdeplgkhmebalaaGreatDoorRows
import GoSem.ClaimSeven
namespace Go.Proofs.YtdeplgkhmebalaaGreatDoor
namespace Rows

/-- THE TIED CARD OF 'stokerlaw.Loads'. -/
def loadsCard : Claim7 := { stood := { row := loadsRow, standIns := [], harness := (true, "389cdc6f4a6698adfdca9cc3cd8d4abbf1defa9032eebaf23e8579f783cac80a"), looks := false }, kinds := [], alts := [], laidByText := true, laidKinds := [.data, .data], laidTests := true, laidLooks := .later }
def LoadsCardSaid : Prop := Claim7.holds Tryz.pinned (.plain (OpenSpec.ofChange loadsSpec)) loadsCard

/-- THE TIED CARD OF 'stokerlaw.Runs'. -/
def runsCard : Claim7 := { stood := { row := runsRow, standIns := [], harness := (true, "389cdc6f4a6698adfdca9cc3cd8d4abbf1defa9032eebaf23e8579f783cac80a"), looks := false }, kinds := [], alts := [], laidByText := true, laidKinds := [.data, .data], laidTests := true, laidLooks := .later }
def RunsCardSaid : Prop := Claim7.holds Tryz.pinned (.plain (OpenSpec.ofChange runsSpec)) runsCard

/-- THE TIED CARD OF 'stokerkeep.Cut'. -/
def cutCard : Claim7 := { stood := { row := cutRow, standIns := [], harness := (true, "389cdc6f4a6698adfdca9cc3cd8d4abbf1defa9032eebaf23e8579f783cac80a"), looks := false }, kinds := [], alts := [], laidByText := true, laidKinds := [.data, .data], laidTests := true, laidLooks := .later }
def CutCardSaid : Prop := Claim7.holds Tryz.pinned (.plain (OpenSpec.ofChange cutSpec)) cutCard

/-- THE TIED CARD OF 'stokerkeep.Wrong'. -/
def wrongCard : Claim7 := { stood := { row := wrongRow, standIns := [], harness := (true, "389cdc6f4a6698adfdca9cc3cd8d4abbf1defa9032eebaf23e8579f783cac80a"), looks := false }, kinds := [], alts := [], laidByText := true, laidKinds := [.data, .data], laidTests := true, laidLooks := .later }
def WrongCardSaid : Prop := Claim7.holds Tryz.pinned (.plain (OpenSpec.ofChange wrongSpec)) wrongCard

/-- THE TIED CARD OF 'stokerkeep.Reckons'. -/
def reckonsCard : Claim7 := { stood := { row := reckonsRow, standIns := [], harness := (true, "389cdc6f4a6698adfdca9cc3cd8d4abbf1defa9032eebaf23e8579f783cac80a"), looks := false }, kinds := [], alts := [], laidByText := true, laidKinds := [.data, .data], laidTests := true, laidLooks := .later }
def ReckonsCardSaid : Prop := Claim7.holds Tryz.pinned (.plain (OpenSpec.ofChange reckonsSpec)) reckonsCard

/-- THE TIED CARD OF 'stokerkeep.Deep'. -/
def deepCard : Claim7 := { stood := { row := deepRow, standIns := [], harness := (true, "389cdc6f4a6698adfdca9cc3cd8d4abbf1defa9032eebaf23e8579f783cac80a"), looks := false }, kinds := [], alts := [], laidByText := true, laidKinds := [.data, .data], laidTests := true, laidLooks := .later }
def DeepCardSaid : Prop := Claim7.holds Tryz.pinned (.plain (OpenSpec.ofChange deepSpec)) deepCard

/-- THE TIED CARD OF 'stokerkeep.Tables'. -/
def tablesCard : Claim7 := { stood := { row := tablesRow, standIns := [], harness := (true, "389cdc6f4a6698adfdca9cc3cd8d4abbf1defa9032eebaf23e8579f783cac80a"), looks := false }, kinds := [], alts := [], laidByText := true, laidKinds := [.data, .data], laidTests := true, laidLooks := .later }
def TablesCardSaid : Prop := Claim7.holds Tryz.pinned (.plain (OpenSpec.ofChange tablesSpec)) tablesCard

/-- THE TIED CARD OF 'stokerlaw.All'. -/
def allCard : Claim7 := { stood := { row := allRow, standIns := [], harness := (true, "389cdc6f4a6698adfdca9cc3cd8d4abbf1defa9032eebaf23e8579f783cac80a"), looks := false }, kinds := [], alts := [], laidByText := true, laidKinds := [.data, .data], laidTests := true, laidLooks := .later }
def AllCardSaid : Prop := Claim7.holds Tryz.pinned (.plain (OpenSpec.ofChange allSpec)) allCard

/-- THE TIED CARD OF 'stokerkeep.Loops'. -/
def loopsCard : Claim7 := { stood := { row := loopsRow, standIns := [], harness := (true, "389cdc6f4a6698adfdca9cc3cd8d4abbf1defa9032eebaf23e8579f783cac80a"), looks := false }, kinds := [], alts := [], laidByText := true, laidKinds := [.data, .data], laidTests := true, laidLooks := .later }
def LoopsCardSaid : Prop := Claim7.holds Tryz.pinned (.plain (OpenSpec.ofChange loopsSpec)) loopsCard

/-- THE TIED CARD OF 'stokerkeep.Cells'. -/
def cellsCard : Claim7 := { stood := { row := cellsRow, standIns := [], harness := (true, "389cdc6f4a6698adfdca9cc3cd8d4abbf1defa9032eebaf23e8579f783cac80a"), looks := false }, kinds := [], alts := [], laidByText := true, laidKinds := [.data, .data], laidTests := true, laidLooks := .later }
def CellsCardSaid : Prop := Claim7.holds Tryz.pinned (.plain (OpenSpec.ofChange cellsSpec)) cellsCard

/-- THE TIED CARD OF 'stokerkeep.Kept'. -/
def keptCard : Claim7 := { stood := { row := keptRow, standIns := [], harness := (true, "389cdc6f4a6698adfdca9cc3cd8d4abbf1defa9032eebaf23e8579f783cac80a"), looks := false }, kinds := [], alts := [], laidByText := true, laidKinds := [.data, .data], laidTests := true, laidLooks := .later }
def KeptCardSaid : Prop := Claim7.holds Tryz.pinned (.plain (OpenSpec.ofChange keptSpec)) keptCard

/-- THE TIED CARD OF 'stokerkeep.Tame'. -/
def tameCard : Claim7 := { stood := { row := tameRow, standIns := [], harness := (true, "389cdc6f4a6698adfdca9cc3cd8d4abbf1defa9032eebaf23e8579f783cac80a"), looks := false }, kinds := [], alts := [], laidByText := true, laidKinds := [.data, .data], laidTests := true, laidLooks := .later }
def TameCardSaid : Prop := Claim7.holds Tryz.pinned (.plain (OpenSpec.ofChange tameSpec)) tameCard

/-- THE SECOND FORM's CARD OF 'stokerlaw.Loads'. -/
def loadsUptoCard : Claim7 := { stood := { row := loadsUptoRow, standIns := [], harness := (true, "389cdc6f4a6698adfdca9cc3cd8d4abbf1defa9032eebaf23e8579f783cac80a"), looks := false }, kinds := [], alts := [], laidByText := true, laidKinds := [.data, .data], laidTests := true, laidLooks := .later }
def LoadsUptoCardSaid : Prop := Claim7.holds Tryz.pinned (.plain (OpenSpec.upto loadsSpec)) loadsUptoCard

/-- THE SECOND FORM's CARD OF 'stokerlaw.Runs'. -/
def runsUptoCard : Claim7 := { stood := { row := runsUptoRow, standIns := [], harness := (true, "389cdc6f4a6698adfdca9cc3cd8d4abbf1defa9032eebaf23e8579f783cac80a"), looks := false }, kinds := [], alts := [], laidByText := true, laidKinds := [.data, .data], laidTests := true, laidLooks := .later }
def RunsUptoCardSaid : Prop := Claim7.holds Tryz.pinned (.plain (OpenSpec.upto runsSpec)) runsUptoCard

/-- THE SECOND FORM's CARD OF 'stokerkeep.Cut'. -/
def cutUptoCard : Claim7 := { stood := { row := cutUptoRow, standIns := [], harness := (true, "389cdc6f4a6698adfdca9cc3cd8d4abbf1defa9032eebaf23e8579f783cac80a"), looks := false }, kinds := [], alts := [], laidByText := true, laidKinds := [.data, .data], laidTests := true, laidLooks := .later }
def CutUptoCardSaid : Prop := Claim7.holds Tryz.pinned (.plain (OpenSpec.upto cutSpec)) cutUptoCard

/-- THE SECOND FORM's CARD OF 'stokerkeep.Wrong'. -/
def wrongUptoCard : Claim7 := { stood := { row := wrongUptoRow, standIns := [], harness := (true, "389cdc6f4a6698adfdca9cc3cd8d4abbf1defa9032eebaf23e8579f783cac80a"), looks := false }, kinds := [], alts := [], laidByText := true, laidKinds := [.data, .data], laidTests := true, laidLooks := .later }
def WrongUptoCardSaid : Prop := Claim7.holds Tryz.pinned (.plain (OpenSpec.upto wrongSpec)) wrongUptoCard

/-- THE SECOND FORM's CARD OF 'stokerkeep.Reckons'. -/
def reckonsUptoCard : Claim7 := { stood := { row := reckonsUptoRow, standIns := [], harness := (true, "389cdc6f4a6698adfdca9cc3cd8d4abbf1defa9032eebaf23e8579f783cac80a"), looks := false }, kinds := [], alts := [], laidByText := true, laidKinds := [.data, .data], laidTests := true, laidLooks := .later }
def ReckonsUptoCardSaid : Prop := Claim7.holds Tryz.pinned (.plain (OpenSpec.upto reckonsSpec)) reckonsUptoCard

/-- THE SECOND FORM's CARD OF 'stokerkeep.Deep'. -/
def deepUptoCard : Claim7 := { stood := { row := deepUptoRow, standIns := [], harness := (true, "389cdc6f4a6698adfdca9cc3cd8d4abbf1defa9032eebaf23e8579f783cac80a"), looks := false }, kinds := [], alts := [], laidByText := true, laidKinds := [.data, .data], laidTests := true, laidLooks := .later }
def DeepUptoCardSaid : Prop := Claim7.holds Tryz.pinned (.plain (OpenSpec.upto deepSpec)) deepUptoCard

/-- THE SECOND FORM's CARD OF 'stokerkeep.Tables'. -/
def tablesUptoCard : Claim7 := { stood := { row := tablesUptoRow, standIns := [], harness := (true, "389cdc6f4a6698adfdca9cc3cd8d4abbf1defa9032eebaf23e8579f783cac80a"), looks := false }, kinds := [], alts := [], laidByText := true, laidKinds := [.data, .data], laidTests := true, laidLooks := .later }
def TablesUptoCardSaid : Prop := Claim7.holds Tryz.pinned (.plain (OpenSpec.upto tablesSpec)) tablesUptoCard

/-- THE SECOND FORM's CARD OF 'stokerlaw.All'. -/
def allUptoCard : Claim7 := { stood := { row := allUptoRow, standIns := [], harness := (true, "389cdc6f4a6698adfdca9cc3cd8d4abbf1defa9032eebaf23e8579f783cac80a"), looks := false }, kinds := [], alts := [], laidByText := true, laidKinds := [.data, .data], laidTests := true, laidLooks := .later }
def AllUptoCardSaid : Prop := Claim7.holds Tryz.pinned (.plain (OpenSpec.upto allSpec)) allUptoCard

/-- THE SECOND FORM's CARD OF 'stokerkeep.Loops'. -/
def loopsUptoCard : Claim7 := { stood := { row := loopsUptoRow, standIns := [], harness := (true, "389cdc6f4a6698adfdca9cc3cd8d4abbf1defa9032eebaf23e8579f783cac80a"), looks := false }, kinds := [], alts := [], laidByText := true, laidKinds := [.data, .data], laidTests := true, laidLooks := .later }
def LoopsUptoCardSaid : Prop := Claim7.holds Tryz.pinned (.plain (OpenSpec.upto loopsSpec)) loopsUptoCard

/-- THE SECOND FORM's CARD OF 'stokerkeep.Cells'. -/
def cellsUptoCard : Claim7 := { stood := { row := cellsUptoRow, standIns := [], harness := (true, "389cdc6f4a6698adfdca9cc3cd8d4abbf1defa9032eebaf23e8579f783cac80a"), looks := false }, kinds := [], alts := [], laidByText := true, laidKinds := [.data, .data], laidTests := true, laidLooks := .later }
def CellsUptoCardSaid : Prop := Claim7.holds Tryz.pinned (.plain (OpenSpec.upto cellsSpec)) cellsUptoCard

/-- THE SECOND FORM's CARD OF 'stokerkeep.Kept'. -/
def keptUptoCard : Claim7 := { stood := { row := keptUptoRow, standIns := [], harness := (true, "389cdc6f4a6698adfdca9cc3cd8d4abbf1defa9032eebaf23e8579f783cac80a"), looks := false }, kinds := [], alts := [], laidByText := true, laidKinds := [.data, .data], laidTests := true, laidLooks := .later }
def KeptUptoCardSaid : Prop := Claim7.holds Tryz.pinned (.plain (OpenSpec.upto keptSpec)) keptUptoCard

/-- THE SECOND FORM's CARD OF 'stokerkeep.Tame'. -/
def tameUptoCard : Claim7 := { stood := { row := tameUptoRow, standIns := [], harness := (true, "389cdc6f4a6698adfdca9cc3cd8d4abbf1defa9032eebaf23e8579f783cac80a"), looks := false }, kinds := [], alts := [], laidByText := true, laidKinds := [.data, .data], laidTests := true, laidLooks := .later }
def TameUptoCardSaid : Prop := Claim7.holds Tryz.pinned (.plain (OpenSpec.upto tameSpec)) tameUptoCard
end Rows
end Go.Proofs.YtdeplgkhmebalaaGreatDoor
