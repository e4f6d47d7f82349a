/-
  DERIVED. GIVEN WITH THE SEED: THE CARDS: each row of YtadeoflkppiflaaGreatDoorRows.lean that lists a variable, with what it lists TIED to the program's text (the seventh form; the later family's looks); each row that meets fmt, with fmt's text TOLD by the authors' own Lean function (tested against real Go, not proved from fmt's source: count such statements apart). THE CARD IS WHAT COUNTS. Prove the row's statement (the work); the ties are given (YtadeoflkppiflaaGreatDoorTie.lean); close each card by the builder's one call (the guide's Derived/Test/ToyasCard.lean, 'card_holds'). Laid BY PROGRAM, IN A SANDBOX (cutbox-door.mjs). By AI agents, Wed Nov 11 2026. No macro, syntax, notation, axiom, sorry.
-/
import Derived.Test.YtadeoflkppiflaaGreatDoorRows
import GoSem.ClaimSeven
namespace Go.Proofs.YtadeoflkppiflaaGreatDoor
namespace Rows

/-- THE TIED CARD OF 'bellowslaw09.MesiPlays'. -/
def mesiPlaysCard : Claim7 := { stood := { row := mesiPlaysRow, standIns := [], harness := (true, "5eaeddc643d26ea8bbb9c16b30bd801bda13c6e732543810fdbcd52faa045984"), looks := false }, kinds := [], alts := [], laidByText := true, laidKinds := [.data, .data], laidTests := true, laidLooks := .later }
def MesiPlaysCardSaid : Prop := Claim7.holds Tryz.pinned (.plain (OpenSpec.ofChange mesiPlaysSpec)) mesiPlaysCard

/-- THE TIED CARD OF 'bellowslaw09.MesiTrue'. -/
def mesiTrueCard : Claim7 := { stood := { row := mesiTrueRow, standIns := [], harness := (true, "5eaeddc643d26ea8bbb9c16b30bd801bda13c6e732543810fdbcd52faa045984"), looks := false }, kinds := [], alts := [], laidByText := true, laidKinds := [.data, .data], laidTests := true, laidLooks := .later }
def MesiTrueCardSaid : Prop := Claim7.holds Tryz.pinned (.plain (OpenSpec.ofChange mesiTrueSpec)) mesiTrueCard

/-- THE TIED CARD OF 'bellowslaw09.MesiOne'. -/
def mesiOneCard : Claim7 := { stood := { row := mesiOneRow, standIns := [], harness := (true, "5eaeddc643d26ea8bbb9c16b30bd801bda13c6e732543810fdbcd52faa045984"), looks := false }, kinds := [], alts := [], laidByText := true, laidKinds := [.data, .data], laidTests := true, laidLooks := .later }
def MesiOneCardSaid : Prop := Claim7.holds Tryz.pinned (.plain (OpenSpec.ofChange mesiOneSpec)) mesiOneCard

/-- THE TIED CARD OF 'bellowslaw09.MesiFits'. -/
def mesiFitsCard : Claim7 := { stood := { row := mesiFitsRow, standIns := [], harness := (true, "5eaeddc643d26ea8bbb9c16b30bd801bda13c6e732543810fdbcd52faa045984"), looks := false }, kinds := [], alts := [], laidByText := true, laidKinds := [.data, .data], laidTests := true, laidLooks := .later }
def MesiFitsCardSaid : Prop := Claim7.holds Tryz.pinned (.plain (OpenSpec.ofChange mesiFitsSpec)) mesiFitsCard

/-- THE TIED CARD OF 'bellowslaw09.MesiMemory'. -/
def mesiMemoryCard : Claim7 := { stood := { row := mesiMemoryRow, standIns := [], harness := (true, "5eaeddc643d26ea8bbb9c16b30bd801bda13c6e732543810fdbcd52faa045984"), looks := false }, kinds := [], alts := [], laidByText := true, laidKinds := [.data, .data], laidTests := true, laidLooks := .later }
def MesiMemoryCardSaid : Prop := Claim7.holds Tryz.pinned (.plain (OpenSpec.ofChange mesiMemorySpec)) mesiMemoryCard

/-- THE TIED CARD OF 'bellowslaw09.MesiNone'. -/
def mesiNoneCard : Claim7 := { stood := { row := mesiNoneRow, standIns := [], harness := (true, "5eaeddc643d26ea8bbb9c16b30bd801bda13c6e732543810fdbcd52faa045984"), looks := false }, kinds := [], alts := [], laidByText := true, laidKinds := [.data, .data], laidTests := true, laidLooks := .later }
def MesiNoneCardSaid : Prop := Claim7.holds Tryz.pinned (.plain (OpenSpec.ofChange mesiNoneSpec)) mesiNoneCard

/-- THE TIED CARD OF 'bellowslaw09.MesiHands'. -/
def mesiHandsCard : Claim7 := { stood := { row := mesiHandsRow, standIns := [], harness := (true, "5eaeddc643d26ea8bbb9c16b30bd801bda13c6e732543810fdbcd52faa045984"), looks := false }, kinds := [], alts := [], laidByText := true, laidKinds := [.data, .data], laidTests := true, laidLooks := .later }
def MesiHandsCardSaid : Prop := Claim7.holds Tryz.pinned (.plain (OpenSpec.ofChange mesiHandsSpec)) mesiHandsCard

/-- THE TIED CARD OF 'bellowslaw09.MesiDrops'. -/
def mesiDropsCard : Claim7 := { stood := { row := mesiDropsRow, standIns := [], harness := (true, "5eaeddc643d26ea8bbb9c16b30bd801bda13c6e732543810fdbcd52faa045984"), looks := false }, kinds := [], alts := [], laidByText := true, laidKinds := [.data, .data], laidTests := true, laidLooks := .later }
def MesiDropsCardSaid : Prop := Claim7.holds Tryz.pinned (.plain (OpenSpec.ofChange mesiDropsSpec)) mesiDropsCard

/-- THE SECOND FORM's CARD OF 'bellowslaw09.MesiPlays'. -/
def mesiPlaysUptoCard : Claim7 := { stood := { row := mesiPlaysUptoRow, standIns := [], harness := (true, "5eaeddc643d26ea8bbb9c16b30bd801bda13c6e732543810fdbcd52faa045984"), looks := false }, kinds := [], alts := [], laidByText := true, laidKinds := [.data, .data], laidTests := true, laidLooks := .later }
def MesiPlaysUptoCardSaid : Prop := Claim7.holds Tryz.pinned (.plain (OpenSpec.upto mesiPlaysSpec)) mesiPlaysUptoCard

/-- THE SECOND FORM's CARD OF 'bellowslaw09.MesiTrue'. -/
def mesiTrueUptoCard : Claim7 := { stood := { row := mesiTrueUptoRow, standIns := [], harness := (true, "5eaeddc643d26ea8bbb9c16b30bd801bda13c6e732543810fdbcd52faa045984"), looks := false }, kinds := [], alts := [], laidByText := true, laidKinds := [.data, .data], laidTests := true, laidLooks := .later }
def MesiTrueUptoCardSaid : Prop := Claim7.holds Tryz.pinned (.plain (OpenSpec.upto mesiTrueSpec)) mesiTrueUptoCard

/-- THE SECOND FORM's CARD OF 'bellowslaw09.MesiOne'. -/
def mesiOneUptoCard : Claim7 := { stood := { row := mesiOneUptoRow, standIns := [], harness := (true, "5eaeddc643d26ea8bbb9c16b30bd801bda13c6e732543810fdbcd52faa045984"), looks := false }, kinds := [], alts := [], laidByText := true, laidKinds := [.data, .data], laidTests := true, laidLooks := .later }
def MesiOneUptoCardSaid : Prop := Claim7.holds Tryz.pinned (.plain (OpenSpec.upto mesiOneSpec)) mesiOneUptoCard

/-- THE SECOND FORM's CARD OF 'bellowslaw09.MesiFits'. -/
def mesiFitsUptoCard : Claim7 := { stood := { row := mesiFitsUptoRow, standIns := [], harness := (true, "5eaeddc643d26ea8bbb9c16b30bd801bda13c6e732543810fdbcd52faa045984"), looks := false }, kinds := [], alts := [], laidByText := true, laidKinds := [.data, .data], laidTests := true, laidLooks := .later }
def MesiFitsUptoCardSaid : Prop := Claim7.holds Tryz.pinned (.plain (OpenSpec.upto mesiFitsSpec)) mesiFitsUptoCard

/-- THE SECOND FORM's CARD OF 'bellowslaw09.MesiMemory'. -/
def mesiMemoryUptoCard : Claim7 := { stood := { row := mesiMemoryUptoRow, standIns := [], harness := (true, "5eaeddc643d26ea8bbb9c16b30bd801bda13c6e732543810fdbcd52faa045984"), looks := false }, kinds := [], alts := [], laidByText := true, laidKinds := [.data, .data], laidTests := true, laidLooks := .later }
def MesiMemoryUptoCardSaid : Prop := Claim7.holds Tryz.pinned (.plain (OpenSpec.upto mesiMemorySpec)) mesiMemoryUptoCard

/-- THE SECOND FORM's CARD OF 'bellowslaw09.MesiNone'. -/
def mesiNoneUptoCard : Claim7 := { stood := { row := mesiNoneUptoRow, standIns := [], harness := (true, "5eaeddc643d26ea8bbb9c16b30bd801bda13c6e732543810fdbcd52faa045984"), looks := false }, kinds := [], alts := [], laidByText := true, laidKinds := [.data, .data], laidTests := true, laidLooks := .later }
def MesiNoneUptoCardSaid : Prop := Claim7.holds Tryz.pinned (.plain (OpenSpec.upto mesiNoneSpec)) mesiNoneUptoCard

/-- THE SECOND FORM's CARD OF 'bellowslaw09.MesiHands'. -/
def mesiHandsUptoCard : Claim7 := { stood := { row := mesiHandsUptoRow, standIns := [], harness := (true, "5eaeddc643d26ea8bbb9c16b30bd801bda13c6e732543810fdbcd52faa045984"), looks := false }, kinds := [], alts := [], laidByText := true, laidKinds := [.data, .data], laidTests := true, laidLooks := .later }
def MesiHandsUptoCardSaid : Prop := Claim7.holds Tryz.pinned (.plain (OpenSpec.upto mesiHandsSpec)) mesiHandsUptoCard

/-- THE SECOND FORM's CARD OF 'bellowslaw09.MesiDrops'. -/
def mesiDropsUptoCard : Claim7 := { stood := { row := mesiDropsUptoRow, standIns := [], harness := (true, "5eaeddc643d26ea8bbb9c16b30bd801bda13c6e732543810fdbcd52faa045984"), looks := false }, kinds := [], alts := [], laidByText := true, laidKinds := [.data, .data], laidTests := true, laidLooks := .later }
def MesiDropsUptoCardSaid : Prop := Claim7.holds Tryz.pinned (.plain (OpenSpec.upto mesiDropsSpec)) mesiDropsUptoCard
end Rows
end Go.Proofs.YtadeoflkppiflaaGreatDoor
