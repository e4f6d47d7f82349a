/-
  DERIVED. GIVEN WITH THE SEED: THE CARDS: each row of YtcgjofbkcgedfaaGreatDoorRows.lean that lists a variable, with what it lists TIED to the program's text (the seventh form; the later family's looks); each row that meets fmt, with fmt's text TOLD by the authors' own Lean function (tested against real Go, not proved from fmt's source: count such statements apart). THE CARD IS WHAT COUNTS. Prove the row's statement (the work); the ties are given (YtcgjofbkcgedfaaGreatDoorTie.lean); close each card by the builder's one call (the guide's Derived/Test/ToyasCard.lean, 'card_holds'). Laid BY PROGRAM, IN A SANDBOX (cutbox-door.mjs). By AI agents, Wed Nov 11 2026. No macro, syntax, notation, axiom, sorry.
-/
import Derived.Test.YtcgjofbkcgedfaaGreatDoorRows
import GoSem.ClaimSeven
namespace Go.Proofs.YtcgjofbkcgedfaaGreatDoor
namespace Rows

/-- THE TIED CARD OF 'bellowslaw15.MachineAllowed'. -/
def machineAllowedCard : Claim7 := { stood := { row := machineAllowedRow, standIns := [], harness := (true, "1fdb453ca92e6deacbdf4f7989294fa6346312b5fbf78ba01fd463258366d23f"), looks := false }, kinds := [], alts := [], laidByText := true, laidKinds := [.data, .data], laidTests := true, laidLooks := .later }
def MachineAllowedCardSaid : Prop := Claim7.holds Tryz.pinned (.plain (OpenSpec.ofChange machineAllowedSpec)) machineAllowedCard

/-- THE TIED CARD OF 'bellowslaw15.MachineKept'. -/
def machineKeptCard : Claim7 := { stood := { row := machineKeptRow, standIns := [], harness := (true, "1fdb453ca92e6deacbdf4f7989294fa6346312b5fbf78ba01fd463258366d23f"), looks := false }, kinds := [], alts := [], laidByText := true, laidKinds := [.data, .data], laidTests := true, laidLooks := .later }
def MachineKeptCardSaid : Prop := Claim7.holds Tryz.pinned (.plain (OpenSpec.ofChange machineKeptSpec)) machineKeptCard

/-- THE TIED CARD OF 'bellowslaw15.MachineQuiet'. -/
def machineQuietCard : Claim7 := { stood := { row := machineQuietRow, standIns := [], harness := (true, "1fdb453ca92e6deacbdf4f7989294fa6346312b5fbf78ba01fd463258366d23f"), looks := false }, kinds := [], alts := [], laidByText := true, laidKinds := [.data, .data], laidTests := true, laidLooks := .later }
def MachineQuietCardSaid : Prop := Claim7.holds Tryz.pinned (.plain (OpenSpec.ofChange machineQuietSpec)) machineQuietCard

/-- THE TIED CARD OF 'bellowslaw15.MachineNone'. -/
def machineNoneCard : Claim7 := { stood := { row := machineNoneRow, standIns := [], harness := (true, "1fdb453ca92e6deacbdf4f7989294fa6346312b5fbf78ba01fd463258366d23f"), looks := false }, kinds := [], alts := [], laidByText := true, laidKinds := [.data, .data], laidTests := true, laidLooks := .later }
def MachineNoneCardSaid : Prop := Claim7.holds Tryz.pinned (.plain (OpenSpec.ofChange machineNoneSpec)) machineNoneCard

/-- THE TIED CARD OF 'bellowslaw15.MachinePasses'. -/
def machinePassesCard : Claim7 := { stood := { row := machinePassesRow, standIns := [], harness := (true, "1fdb453ca92e6deacbdf4f7989294fa6346312b5fbf78ba01fd463258366d23f"), looks := false }, kinds := [], alts := [], laidByText := true, laidKinds := [.data, .data], laidTests := true, laidLooks := .later }
def MachinePassesCardSaid : Prop := Claim7.holds Tryz.pinned (.plain (OpenSpec.ofChange machinePassesSpec)) machinePassesCard

/-- THE TIED CARD OF 'bellowslaw15.MachineCrosses'. -/
def machineCrossesCard : Claim7 := { stood := { row := machineCrossesRow, standIns := [], harness := (true, "1fdb453ca92e6deacbdf4f7989294fa6346312b5fbf78ba01fd463258366d23f"), looks := false }, kinds := [], alts := [], laidByText := true, laidKinds := [.data, .data], laidTests := true, laidLooks := .later }
def MachineCrossesCardSaid : Prop := Claim7.holds Tryz.pinned (.plain (OpenSpec.ofChange machineCrossesSpec)) machineCrossesCard

/-- THE TIED CARD OF 'bellowslaw15.MachineCounts'. -/
def machineCountsCard : Claim7 := { stood := { row := machineCountsRow, standIns := [], harness := (true, "1fdb453ca92e6deacbdf4f7989294fa6346312b5fbf78ba01fd463258366d23f"), looks := false }, kinds := [], alts := [], laidByText := true, laidKinds := [.data, .data], laidTests := true, laidLooks := .later }
def MachineCountsCardSaid : Prop := Claim7.holds Tryz.pinned (.plain (OpenSpec.ofChange machineCountsSpec)) machineCountsCard

/-- THE TIED CARD OF 'bellowslaw15.MachineFlushes'. -/
def machineFlushesCard : Claim7 := { stood := { row := machineFlushesRow, standIns := [], harness := (true, "1fdb453ca92e6deacbdf4f7989294fa6346312b5fbf78ba01fd463258366d23f"), looks := false }, kinds := [], alts := [], laidByText := true, laidKinds := [.data, .data], laidTests := true, laidLooks := .later }
def MachineFlushesCardSaid : Prop := Claim7.holds Tryz.pinned (.plain (OpenSpec.ofChange machineFlushesSpec)) machineFlushesCard

/-- THE TIED CARD OF 'bellowslaw15.MachineShapes'. -/
def machineShapesCard : Claim7 := { stood := { row := machineShapesRow, standIns := [], harness := (true, "1fdb453ca92e6deacbdf4f7989294fa6346312b5fbf78ba01fd463258366d23f"), looks := false }, kinds := [], alts := [], laidByText := true, laidKinds := [.data, .data], laidTests := true, laidLooks := .later }
def MachineShapesCardSaid : Prop := Claim7.holds Tryz.pinned (.plain (OpenSpec.ofChange machineShapesSpec)) machineShapesCard

/-- THE SECOND FORM's CARD OF 'bellowslaw15.MachineAllowed'. -/
def machineAllowedUptoCard : Claim7 := { stood := { row := machineAllowedUptoRow, standIns := [], harness := (true, "1fdb453ca92e6deacbdf4f7989294fa6346312b5fbf78ba01fd463258366d23f"), looks := false }, kinds := [], alts := [], laidByText := true, laidKinds := [.data, .data], laidTests := true, laidLooks := .later }
def MachineAllowedUptoCardSaid : Prop := Claim7.holds Tryz.pinned (.plain (OpenSpec.upto machineAllowedSpec)) machineAllowedUptoCard

/-- THE SECOND FORM's CARD OF 'bellowslaw15.MachineKept'. -/
def machineKeptUptoCard : Claim7 := { stood := { row := machineKeptUptoRow, standIns := [], harness := (true, "1fdb453ca92e6deacbdf4f7989294fa6346312b5fbf78ba01fd463258366d23f"), looks := false }, kinds := [], alts := [], laidByText := true, laidKinds := [.data, .data], laidTests := true, laidLooks := .later }
def MachineKeptUptoCardSaid : Prop := Claim7.holds Tryz.pinned (.plain (OpenSpec.upto machineKeptSpec)) machineKeptUptoCard

/-- THE SECOND FORM's CARD OF 'bellowslaw15.MachineQuiet'. -/
def machineQuietUptoCard : Claim7 := { stood := { row := machineQuietUptoRow, standIns := [], harness := (true, "1fdb453ca92e6deacbdf4f7989294fa6346312b5fbf78ba01fd463258366d23f"), looks := false }, kinds := [], alts := [], laidByText := true, laidKinds := [.data, .data], laidTests := true, laidLooks := .later }
def MachineQuietUptoCardSaid : Prop := Claim7.holds Tryz.pinned (.plain (OpenSpec.upto machineQuietSpec)) machineQuietUptoCard

/-- THE SECOND FORM's CARD OF 'bellowslaw15.MachineNone'. -/
def machineNoneUptoCard : Claim7 := { stood := { row := machineNoneUptoRow, standIns := [], harness := (true, "1fdb453ca92e6deacbdf4f7989294fa6346312b5fbf78ba01fd463258366d23f"), looks := false }, kinds := [], alts := [], laidByText := true, laidKinds := [.data, .data], laidTests := true, laidLooks := .later }
def MachineNoneUptoCardSaid : Prop := Claim7.holds Tryz.pinned (.plain (OpenSpec.upto machineNoneSpec)) machineNoneUptoCard

/-- THE SECOND FORM's CARD OF 'bellowslaw15.MachinePasses'. -/
def machinePassesUptoCard : Claim7 := { stood := { row := machinePassesUptoRow, standIns := [], harness := (true, "1fdb453ca92e6deacbdf4f7989294fa6346312b5fbf78ba01fd463258366d23f"), looks := false }, kinds := [], alts := [], laidByText := true, laidKinds := [.data, .data], laidTests := true, laidLooks := .later }
def MachinePassesUptoCardSaid : Prop := Claim7.holds Tryz.pinned (.plain (OpenSpec.upto machinePassesSpec)) machinePassesUptoCard

/-- THE SECOND FORM's CARD OF 'bellowslaw15.MachineCrosses'. -/
def machineCrossesUptoCard : Claim7 := { stood := { row := machineCrossesUptoRow, standIns := [], harness := (true, "1fdb453ca92e6deacbdf4f7989294fa6346312b5fbf78ba01fd463258366d23f"), looks := false }, kinds := [], alts := [], laidByText := true, laidKinds := [.data, .data], laidTests := true, laidLooks := .later }
def MachineCrossesUptoCardSaid : Prop := Claim7.holds Tryz.pinned (.plain (OpenSpec.upto machineCrossesSpec)) machineCrossesUptoCard

/-- THE SECOND FORM's CARD OF 'bellowslaw15.MachineCounts'. -/
def machineCountsUptoCard : Claim7 := { stood := { row := machineCountsUptoRow, standIns := [], harness := (true, "1fdb453ca92e6deacbdf4f7989294fa6346312b5fbf78ba01fd463258366d23f"), looks := false }, kinds := [], alts := [], laidByText := true, laidKinds := [.data, .data], laidTests := true, laidLooks := .later }
def MachineCountsUptoCardSaid : Prop := Claim7.holds Tryz.pinned (.plain (OpenSpec.upto machineCountsSpec)) machineCountsUptoCard

/-- THE SECOND FORM's CARD OF 'bellowslaw15.MachineFlushes'. -/
def machineFlushesUptoCard : Claim7 := { stood := { row := machineFlushesUptoRow, standIns := [], harness := (true, "1fdb453ca92e6deacbdf4f7989294fa6346312b5fbf78ba01fd463258366d23f"), looks := false }, kinds := [], alts := [], laidByText := true, laidKinds := [.data, .data], laidTests := true, laidLooks := .later }
def MachineFlushesUptoCardSaid : Prop := Claim7.holds Tryz.pinned (.plain (OpenSpec.upto machineFlushesSpec)) machineFlushesUptoCard

/-- THE SECOND FORM's CARD OF 'bellowslaw15.MachineShapes'. -/
def machineShapesUptoCard : Claim7 := { stood := { row := machineShapesUptoRow, standIns := [], harness := (true, "1fdb453ca92e6deacbdf4f7989294fa6346312b5fbf78ba01fd463258366d23f"), looks := false }, kinds := [], alts := [], laidByText := true, laidKinds := [.data, .data], laidTests := true, laidLooks := .later }
def MachineShapesUptoCardSaid : Prop := Claim7.holds Tryz.pinned (.plain (OpenSpec.upto machineShapesSpec)) machineShapesUptoCard
end Rows
end Go.Proofs.YtcgjofbkcgedfaaGreatDoor
