/-
  DERIVED. GIVEN WITH THE SEED: THE CARDS: each row of YtlidfghgjjffaaaGreatDoorRows.lean that lists a variable, with what it lists TIED to the program's text (the seventh form; the later family's looks); each row that meets fmt, with fmt's text TOLD by the authors' own Lean function (tested against real Go, not proved from fmt's source: count such statements apart). THE CARD IS WHAT COUNTS. Prove the row's statement (the work); the ties are given (YtlidfghgjjffaaaGreatDoorTie.lean); close each card by the builder's one call (the guide's Derived/Test/ToyasCard.lean, 'card_holds'). Laid BY PROGRAM, IN A SANDBOX (cutbox-door.mjs). By AI agents, Wed Nov 11 2026. No macro, syntax, notation, axiom, sorry.
-/
import Derived.Test.YtlidfghgjjffaaaGreatDoorRows
import GoSem.ClaimSeven
namespace Go.Proofs.YtlidfghgjjffaaaGreatDoor
namespace Rows

/-- THE TIED CARD OF 'bellowslaw15.MachineAllowed'. -/
def machineAllowedCard : Claim7 := { stood := { row := machineAllowedRow, standIns := [], harness := (true, "451c030283c4b60327ff7e00f0dfddff07096bcfb90146a4b6eaff70e76e8f8d"), looks := false }, kinds := [], alts := [], laidByText := true, laidKinds := [.data, .data], laidTests := true, laidLooks := .later }
def MachineAllowedCardSaid : Prop := Claim7.holds Tryz.pinned (.plain (OpenSpec.ofChange machineAllowedSpec)) machineAllowedCard

/-- THE TIED CARD OF 'bellowslaw15.MachineKept'. -/
def machineKeptCard : Claim7 := { stood := { row := machineKeptRow, standIns := [], harness := (true, "451c030283c4b60327ff7e00f0dfddff07096bcfb90146a4b6eaff70e76e8f8d"), looks := false }, kinds := [], alts := [], laidByText := true, laidKinds := [.data, .data], laidTests := true, laidLooks := .later }
def MachineKeptCardSaid : Prop := Claim7.holds Tryz.pinned (.plain (OpenSpec.ofChange machineKeptSpec)) machineKeptCard

/-- THE TIED CARD OF 'bellowslaw15.MachineQuiet'. -/
def machineQuietCard : Claim7 := { stood := { row := machineQuietRow, standIns := [], harness := (true, "451c030283c4b60327ff7e00f0dfddff07096bcfb90146a4b6eaff70e76e8f8d"), looks := false }, kinds := [], alts := [], laidByText := true, laidKinds := [.data, .data], laidTests := true, laidLooks := .later }
def MachineQuietCardSaid : Prop := Claim7.holds Tryz.pinned (.plain (OpenSpec.ofChange machineQuietSpec)) machineQuietCard

/-- THE SECOND FORM's CARD OF 'bellowslaw15.MachineAllowed'. -/
def machineAllowedUptoCard : Claim7 := { stood := { row := machineAllowedUptoRow, standIns := [], harness := (true, "451c030283c4b60327ff7e00f0dfddff07096bcfb90146a4b6eaff70e76e8f8d"), looks := false }, kinds := [], alts := [], laidByText := true, laidKinds := [.data, .data], laidTests := true, laidLooks := .later }
def MachineAllowedUptoCardSaid : Prop := Claim7.holds Tryz.pinned (.plain (OpenSpec.upto machineAllowedSpec)) machineAllowedUptoCard

/-- THE SECOND FORM's CARD OF 'bellowslaw15.MachineKept'. -/
def machineKeptUptoCard : Claim7 := { stood := { row := machineKeptUptoRow, standIns := [], harness := (true, "451c030283c4b60327ff7e00f0dfddff07096bcfb90146a4b6eaff70e76e8f8d"), looks := false }, kinds := [], alts := [], laidByText := true, laidKinds := [.data, .data], laidTests := true, laidLooks := .later }
def MachineKeptUptoCardSaid : Prop := Claim7.holds Tryz.pinned (.plain (OpenSpec.upto machineKeptSpec)) machineKeptUptoCard

/-- THE SECOND FORM's CARD OF 'bellowslaw15.MachineQuiet'. -/
def machineQuietUptoCard : Claim7 := { stood := { row := machineQuietUptoRow, standIns := [], harness := (true, "451c030283c4b60327ff7e00f0dfddff07096bcfb90146a4b6eaff70e76e8f8d"), looks := false }, kinds := [], alts := [], laidByText := true, laidKinds := [.data, .data], laidTests := true, laidLooks := .later }
def MachineQuietUptoCardSaid : Prop := Claim7.holds Tryz.pinned (.plain (OpenSpec.upto machineQuietSpec)) machineQuietUptoCard
end Rows
end Go.Proofs.YtlidfghgjjffaaaGreatDoor
