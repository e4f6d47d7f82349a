/-
  DERIVED. GIVEN WITH THE SEED: THE CARDS: each row of YtkbogampnjamiaaDoorRows.lean that lists a variable, with what it lists TIED to the program's text (the seventh form; the later family's looks); each row that meets fmt, with fmt's text TOLD by the authors' own Lean function (tested against real Go, not proved from fmt's source: count such statements apart). THE CARD IS WHAT COUNTS. Prove the row's statement (the work); the ties are given (YtkbogampnjamiaaDoorTie.lean); close each card by the builder's one call (the guide's Derived/Test/ToyasCard.lean, 'card_holds'). Laid BY PROGRAM, IN A SANDBOX (cutbox-door.mjs). By AI agents, Wed Nov 11 2026. No macro, syntax, notation, axiom, sorry.
-/
import Derived.Test.YtkbogampnjamiaaDoorRows
import GoSem.ClaimSeven
namespace Go.Proofs.YtkbogampnjamiaaDoor
namespace Rows

/-- THE TIED CARD OF 'bellowslaw06.MsgForms'. -/
def msgFormsCard : Claim7 := { stood := { row := msgFormsRow, standIns := [], harness := (true, "63ad85116604081a7863d256b5457a2c2978e956917c42a9e7f7591ceb25d90e"), looks := false }, kinds := [], alts := [], laidByText := true, laidKinds := [.data], laidTests := true, laidLooks := .later }
def MsgFormsCardSaid : Prop := Claim7.holds Tryd.pinned (.plain (OpenSpec.ofChange msgFormsSpec)) msgFormsCard

/-- THE TIED CARD OF 'bellowslaw06.MsgQueues'. -/
def msgQueuesCard : Claim7 := { stood := { row := msgQueuesRow, standIns := [], harness := (true, "63ad85116604081a7863d256b5457a2c2978e956917c42a9e7f7591ceb25d90e"), looks := false }, kinds := [], alts := [], laidByText := true, laidKinds := [.data], laidTests := true, laidLooks := .later }
def MsgQueuesCardSaid : Prop := Claim7.holds Tryd.pinned (.plain (OpenSpec.ofChange msgQueuesSpec)) msgQueuesCard

/-- THE TIED CARD OF 'bellowslaw06.MsgFull'. -/
def msgFullCard : Claim7 := { stood := { row := msgFullRow, standIns := [], harness := (true, "63ad85116604081a7863d256b5457a2c2978e956917c42a9e7f7591ceb25d90e"), looks := false }, kinds := [], alts := [], laidByText := true, laidKinds := [.data], laidTests := true, laidLooks := .later }
def MsgFullCardSaid : Prop := Claim7.holds Tryd.pinned (.plain (OpenSpec.ofChange msgFullSpec)) msgFullCard

/-- THE TIED CARD OF 'bellowslaw06.MsgNone'. -/
def msgNoneCard : Claim7 := { stood := { row := msgNoneRow, standIns := [], harness := (true, "63ad85116604081a7863d256b5457a2c2978e956917c42a9e7f7591ceb25d90e"), looks := false }, kinds := [], alts := [], laidByText := true, laidKinds := [.data], laidTests := true, laidLooks := .later }
def MsgNoneCardSaid : Prop := Claim7.holds Tryd.pinned (.plain (OpenSpec.ofChange msgNoneSpec)) msgNoneCard

/-- THE TIED CARD OF 'bellowslaw06.MsgKinds'. -/
def msgKindsCard : Claim7 := { stood := { row := msgKindsRow, standIns := [], harness := (true, "63ad85116604081a7863d256b5457a2c2978e956917c42a9e7f7591ceb25d90e"), looks := false }, kinds := [], alts := [], laidByText := true, laidKinds := [.data], laidTests := true, laidLooks := .later }
def MsgKindsCardSaid : Prop := Claim7.holds Tryd.pinned (.plain (OpenSpec.ofChange msgKindsSpec)) msgKindsCard

/-- THE SECOND FORM's CARD OF 'bellowslaw06.MsgForms'. -/
def msgFormsUptoCard : Claim7 := { stood := { row := msgFormsUptoRow, standIns := [], harness := (true, "63ad85116604081a7863d256b5457a2c2978e956917c42a9e7f7591ceb25d90e"), looks := false }, kinds := [], alts := [], laidByText := true, laidKinds := [.data], laidTests := true, laidLooks := .later }
def MsgFormsUptoCardSaid : Prop := Claim7.holds Tryd.pinned (.plain (OpenSpec.upto msgFormsSpec)) msgFormsUptoCard

/-- THE SECOND FORM's CARD OF 'bellowslaw06.MsgQueues'. -/
def msgQueuesUptoCard : Claim7 := { stood := { row := msgQueuesUptoRow, standIns := [], harness := (true, "63ad85116604081a7863d256b5457a2c2978e956917c42a9e7f7591ceb25d90e"), looks := false }, kinds := [], alts := [], laidByText := true, laidKinds := [.data], laidTests := true, laidLooks := .later }
def MsgQueuesUptoCardSaid : Prop := Claim7.holds Tryd.pinned (.plain (OpenSpec.upto msgQueuesSpec)) msgQueuesUptoCard

/-- THE SECOND FORM's CARD OF 'bellowslaw06.MsgFull'. -/
def msgFullUptoCard : Claim7 := { stood := { row := msgFullUptoRow, standIns := [], harness := (true, "63ad85116604081a7863d256b5457a2c2978e956917c42a9e7f7591ceb25d90e"), looks := false }, kinds := [], alts := [], laidByText := true, laidKinds := [.data], laidTests := true, laidLooks := .later }
def MsgFullUptoCardSaid : Prop := Claim7.holds Tryd.pinned (.plain (OpenSpec.upto msgFullSpec)) msgFullUptoCard

/-- THE SECOND FORM's CARD OF 'bellowslaw06.MsgNone'. -/
def msgNoneUptoCard : Claim7 := { stood := { row := msgNoneUptoRow, standIns := [], harness := (true, "63ad85116604081a7863d256b5457a2c2978e956917c42a9e7f7591ceb25d90e"), looks := false }, kinds := [], alts := [], laidByText := true, laidKinds := [.data], laidTests := true, laidLooks := .later }
def MsgNoneUptoCardSaid : Prop := Claim7.holds Tryd.pinned (.plain (OpenSpec.upto msgNoneSpec)) msgNoneUptoCard

/-- THE SECOND FORM's CARD OF 'bellowslaw06.MsgKinds'. -/
def msgKindsUptoCard : Claim7 := { stood := { row := msgKindsUptoRow, standIns := [], harness := (true, "63ad85116604081a7863d256b5457a2c2978e956917c42a9e7f7591ceb25d90e"), looks := false }, kinds := [], alts := [], laidByText := true, laidKinds := [.data], laidTests := true, laidLooks := .later }
def MsgKindsUptoCardSaid : Prop := Claim7.holds Tryd.pinned (.plain (OpenSpec.upto msgKindsSpec)) msgKindsUptoCard
end Rows
end Go.Proofs.YtkbogampnjamiaaDoor
