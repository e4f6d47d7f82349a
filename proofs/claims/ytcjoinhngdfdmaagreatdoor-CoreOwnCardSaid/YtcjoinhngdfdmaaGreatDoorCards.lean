/-
  DERIVED. GIVEN WITH THE SEED: THE CARDS: each row of YtcjoinhngdfdmaaGreatDoorRows.lean that lists a variable, with what it lists TIED to the program's text (the seventh form; the later family's looks); each row that meets fmt, with fmt's text TOLD by the authors' own Lean function (tested against real Go, not proved from fmt's source: count such statements apart). THE CARD IS WHAT COUNTS. Prove the row's statement (the work); the ties are given (YtcjoinhngdfdmaaGreatDoorTie.lean); close each card by the builder's one call (the guide's Derived/Test/ToyasCard.lean, 'card_holds'). Laid BY PROGRAM, IN A SANDBOX (cutbox-door.mjs). By AI agents, Wed Nov 11 2026. No macro, syntax, notation, axiom, sorry.
-/
import Derived.Test.YtcjoinhngdfdmaaGreatDoorRows
import GoSem.ClaimSeven
namespace Go.Proofs.YtcjoinhngdfdmaaGreatDoor
namespace Rows

/-- THE TIED CARD OF 'bellowslaw13.CoreOwn'. -/
def coreOwnCard : Claim7 := { stood := { row := coreOwnRow, standIns := [], harness := (true, "58550f2e02dbb66abe6665e946f5b597612d9e76ba1438ba95ecde485d810d3f"), looks := false }, kinds := [], alts := [], laidByText := true, laidKinds := [.data, .data], laidTests := true, laidLooks := .later }
def CoreOwnCardSaid : Prop := Claim7.holds Tryz.pinned (.plain (OpenSpec.ofChange coreOwnSpec)) coreOwnCard

/-- THE TIED CARD OF 'bellowslaw13.CoreFences'. -/
def coreFencesCard : Claim7 := { stood := { row := coreFencesRow, standIns := [], harness := (true, "58550f2e02dbb66abe6665e946f5b597612d9e76ba1438ba95ecde485d810d3f"), looks := false }, kinds := [], alts := [], laidByText := true, laidKinds := [.data, .data], laidTests := true, laidLooks := .later }
def CoreFencesCardSaid : Prop := Claim7.holds Tryz.pinned (.plain (OpenSpec.ofChange coreFencesSpec)) coreFencesCard

/-- THE TIED CARD OF 'bellowslaw13.CoreNone'. -/
def coreNoneCard : Claim7 := { stood := { row := coreNoneRow, standIns := [], harness := (true, "58550f2e02dbb66abe6665e946f5b597612d9e76ba1438ba95ecde485d810d3f"), looks := false }, kinds := [], alts := [], laidByText := true, laidKinds := [.data], laidTests := true, laidLooks := .later }
def CoreNoneCardSaid : Prop := Claim7.holds Tryz.pinned (.plain (OpenSpec.ofChange coreNoneSpec)) coreNoneCard

/-- THE TIED CARD OF 'bellowslaw13.CoreLoops'. -/
def coreLoopsCard : Claim7 := { stood := { row := coreLoopsRow, standIns := [], harness := (true, "58550f2e02dbb66abe6665e946f5b597612d9e76ba1438ba95ecde485d810d3f"), looks := false }, kinds := [], alts := [], laidByText := true, laidKinds := [.data, .data], laidTests := true, laidLooks := .later }
def CoreLoopsCardSaid : Prop := Claim7.holds Tryz.pinned (.plain (OpenSpec.ofChange coreLoopsSpec)) coreLoopsCard

/-- THE TIED CARD OF 'bellowslaw13.CoreLocks'. -/
def coreLocksCard : Claim7 := { stood := { row := coreLocksRow, standIns := [], harness := (true, "58550f2e02dbb66abe6665e946f5b597612d9e76ba1438ba95ecde485d810d3f"), looks := false }, kinds := [], alts := [], laidByText := true, laidKinds := [.data, .data], laidTests := true, laidLooks := .later }
def CoreLocksCardSaid : Prop := Claim7.holds Tryz.pinned (.plain (OpenSpec.ofChange coreLocksSpec)) coreLocksCard

/-- THE TIED CARD OF 'bellowslaw13.CoreTraps'. -/
def coreTrapsCard : Claim7 := { stood := { row := coreTrapsRow, standIns := [], harness := (true, "58550f2e02dbb66abe6665e946f5b597612d9e76ba1438ba95ecde485d810d3f"), looks := false }, kinds := [], alts := [], laidByText := true, laidKinds := [.data, .data], laidTests := true, laidLooks := .later }
def CoreTrapsCardSaid : Prop := Claim7.holds Tryz.pinned (.plain (OpenSpec.ofChange coreTrapsSpec)) coreTrapsCard

/-- THE TIED CARD OF 'bellowslaw13.CoreFull'. -/
def coreFullCard : Claim7 := { stood := { row := coreFullRow, standIns := [], harness := (true, "58550f2e02dbb66abe6665e946f5b597612d9e76ba1438ba95ecde485d810d3f"), looks := false }, kinds := [], alts := [], laidByText := true, laidKinds := [.data, .data], laidTests := true, laidLooks := .later }
def CoreFullCardSaid : Prop := Claim7.holds Tryz.pinned (.plain (OpenSpec.ofChange coreFullSpec)) coreFullCard

/-- THE SECOND FORM's CARD OF 'bellowslaw13.CoreOwn'. -/
def coreOwnUptoCard : Claim7 := { stood := { row := coreOwnUptoRow, standIns := [], harness := (true, "58550f2e02dbb66abe6665e946f5b597612d9e76ba1438ba95ecde485d810d3f"), looks := false }, kinds := [], alts := [], laidByText := true, laidKinds := [.data, .data], laidTests := true, laidLooks := .later }
def CoreOwnUptoCardSaid : Prop := Claim7.holds Tryz.pinned (.plain (OpenSpec.upto coreOwnSpec)) coreOwnUptoCard

/-- THE SECOND FORM's CARD OF 'bellowslaw13.CoreFences'. -/
def coreFencesUptoCard : Claim7 := { stood := { row := coreFencesUptoRow, standIns := [], harness := (true, "58550f2e02dbb66abe6665e946f5b597612d9e76ba1438ba95ecde485d810d3f"), looks := false }, kinds := [], alts := [], laidByText := true, laidKinds := [.data, .data], laidTests := true, laidLooks := .later }
def CoreFencesUptoCardSaid : Prop := Claim7.holds Tryz.pinned (.plain (OpenSpec.upto coreFencesSpec)) coreFencesUptoCard

/-- THE SECOND FORM's CARD OF 'bellowslaw13.CoreNone'. -/
def coreNoneUptoCard : Claim7 := { stood := { row := coreNoneUptoRow, standIns := [], harness := (true, "58550f2e02dbb66abe6665e946f5b597612d9e76ba1438ba95ecde485d810d3f"), looks := false }, kinds := [], alts := [], laidByText := true, laidKinds := [.data], laidTests := true, laidLooks := .later }
def CoreNoneUptoCardSaid : Prop := Claim7.holds Tryz.pinned (.plain (OpenSpec.upto coreNoneSpec)) coreNoneUptoCard

/-- THE SECOND FORM's CARD OF 'bellowslaw13.CoreLoops'. -/
def coreLoopsUptoCard : Claim7 := { stood := { row := coreLoopsUptoRow, standIns := [], harness := (true, "58550f2e02dbb66abe6665e946f5b597612d9e76ba1438ba95ecde485d810d3f"), looks := false }, kinds := [], alts := [], laidByText := true, laidKinds := [.data, .data], laidTests := true, laidLooks := .later }
def CoreLoopsUptoCardSaid : Prop := Claim7.holds Tryz.pinned (.plain (OpenSpec.upto coreLoopsSpec)) coreLoopsUptoCard

/-- THE SECOND FORM's CARD OF 'bellowslaw13.CoreLocks'. -/
def coreLocksUptoCard : Claim7 := { stood := { row := coreLocksUptoRow, standIns := [], harness := (true, "58550f2e02dbb66abe6665e946f5b597612d9e76ba1438ba95ecde485d810d3f"), looks := false }, kinds := [], alts := [], laidByText := true, laidKinds := [.data, .data], laidTests := true, laidLooks := .later }
def CoreLocksUptoCardSaid : Prop := Claim7.holds Tryz.pinned (.plain (OpenSpec.upto coreLocksSpec)) coreLocksUptoCard

/-- THE SECOND FORM's CARD OF 'bellowslaw13.CoreTraps'. -/
def coreTrapsUptoCard : Claim7 := { stood := { row := coreTrapsUptoRow, standIns := [], harness := (true, "58550f2e02dbb66abe6665e946f5b597612d9e76ba1438ba95ecde485d810d3f"), looks := false }, kinds := [], alts := [], laidByText := true, laidKinds := [.data, .data], laidTests := true, laidLooks := .later }
def CoreTrapsUptoCardSaid : Prop := Claim7.holds Tryz.pinned (.plain (OpenSpec.upto coreTrapsSpec)) coreTrapsUptoCard

/-- THE SECOND FORM's CARD OF 'bellowslaw13.CoreFull'. -/
def coreFullUptoCard : Claim7 := { stood := { row := coreFullUptoRow, standIns := [], harness := (true, "58550f2e02dbb66abe6665e946f5b597612d9e76ba1438ba95ecde485d810d3f"), looks := false }, kinds := [], alts := [], laidByText := true, laidKinds := [.data, .data], laidTests := true, laidLooks := .later }
def CoreFullUptoCardSaid : Prop := Claim7.holds Tryz.pinned (.plain (OpenSpec.upto coreFullSpec)) coreFullUptoCard
end Rows
end Go.Proofs.YtcjoinhngdfdmaaGreatDoor
