/-
  DERIVED. GIVEN WITH THE SEED: THE CARDS: each row of YtakjbgnnajdloaaDoorRows.lean that lists a variable, with what it lists TIED to the program's text (the seventh form; the later family's looks); each row that meets fmt, with fmt's text TOLD by the authors' own Lean function (tested against real Go, not proved from fmt's source: count such statements apart). THE CARD IS WHAT COUNTS. Prove the row's statement (the work); the ties are given (YtakjbgnnajdloaaDoorTie.lean); close each card by the builder's one call (the guide's Derived/Test/ToyasCard.lean, 'card_holds'). Laid BY PROGRAM, IN A SANDBOX (cutbox-door.mjs). By AI agents, Wed Nov 11 2026. No macro, syntax, notation, axiom, sorry.
-/
import Derived.Test.YtakjbgnnajdloaaDoorRows
import GoSem.ClaimSeven
namespace Go.Proofs.YtakjbgnnajdloaaDoor
namespace Rows

/-- THE TIED CARD OF 'bellowslaw08.AgentPlays'. -/
def agentPlaysCard : Claim7 := { stood := { row := agentPlaysRow, standIns := [], harness := (true, "c2d39925e2edb2fed99837d44048935d35aa96d257510d0b5c84024431e7ef2e"), looks := false }, kinds := [], alts := [], laidByText := true, laidKinds := [.data, .data], laidTests := true, laidLooks := .later }
def AgentPlaysCardSaid : Prop := Claim7.holds Tryd.pinned (.plain (OpenSpec.ofChange agentPlaysSpec)) agentPlaysCard

/-- THE TIED CARD OF 'bellowslaw08.AgentOne'. -/
def agentOneCard : Claim7 := { stood := { row := agentOneRow, standIns := [], harness := (true, "c2d39925e2edb2fed99837d44048935d35aa96d257510d0b5c84024431e7ef2e"), looks := false }, kinds := [], alts := [], laidByText := true, laidKinds := [.data, .data], laidTests := true, laidLooks := .later }
def AgentOneCardSaid : Prop := Claim7.holds Tryd.pinned (.plain (OpenSpec.ofChange agentOneSpec)) agentOneCard

/-- THE TIED CARD OF 'bellowslaw08.AgentTells'. -/
def agentTellsCard : Claim7 := { stood := { row := agentTellsRow, standIns := [], harness := (true, "c2d39925e2edb2fed99837d44048935d35aa96d257510d0b5c84024431e7ef2e"), looks := false }, kinds := [], alts := [], laidByText := true, laidKinds := [.data, .data], laidTests := true, laidLooks := .later }
def AgentTellsCardSaid : Prop := Claim7.holds Tryd.pinned (.plain (OpenSpec.ofChange agentTellsSpec)) agentTellsCard

/-- THE TIED CARD OF 'bellowslaw08.AgentNone'. -/
def agentNoneCard : Claim7 := { stood := { row := agentNoneRow, standIns := [], harness := (true, "c2d39925e2edb2fed99837d44048935d35aa96d257510d0b5c84024431e7ef2e"), looks := false }, kinds := [], alts := [], laidByText := true, laidKinds := [.data, .data], laidTests := true, laidLooks := .later }
def AgentNoneCardSaid : Prop := Claim7.holds Tryd.pinned (.plain (OpenSpec.ofChange agentNoneSpec)) agentNoneCard

/-- THE TIED CARD OF 'bellowslaw08.AgentUps'. -/
def agentUpsCard : Claim7 := { stood := { row := agentUpsRow, standIns := [], harness := (true, "c2d39925e2edb2fed99837d44048935d35aa96d257510d0b5c84024431e7ef2e"), looks := false }, kinds := [], alts := [], laidByText := true, laidKinds := [.data, .data], laidTests := true, laidLooks := .later }
def AgentUpsCardSaid : Prop := Claim7.holds Tryd.pinned (.plain (OpenSpec.ofChange agentUpsSpec)) agentUpsCard

/-- THE TIED CARD OF 'bellowslaw08.AgentRoom'. -/
def agentRoomCard : Claim7 := { stood := { row := agentRoomRow, standIns := [], harness := (true, "c2d39925e2edb2fed99837d44048935d35aa96d257510d0b5c84024431e7ef2e"), looks := false }, kinds := [], alts := [], laidByText := true, laidKinds := [.data, .data], laidTests := true, laidLooks := .later }
def AgentRoomCardSaid : Prop := Claim7.holds Tryd.pinned (.plain (OpenSpec.ofChange agentRoomSpec)) agentRoomCard

/-- THE TIED CARD OF 'bellowslaw08.AgentWaits'. -/
def agentWaitsCard : Claim7 := { stood := { row := agentWaitsRow, standIns := [], harness := (true, "c2d39925e2edb2fed99837d44048935d35aa96d257510d0b5c84024431e7ef2e"), looks := false }, kinds := [], alts := [], laidByText := true, laidKinds := [.data, .data], laidTests := true, laidLooks := .later }
def AgentWaitsCardSaid : Prop := Claim7.holds Tryd.pinned (.plain (OpenSpec.ofChange agentWaitsSpec)) agentWaitsCard

/-- THE SECOND FORM's CARD OF 'bellowslaw08.AgentPlays'. -/
def agentPlaysUptoCard : Claim7 := { stood := { row := agentPlaysUptoRow, standIns := [], harness := (true, "c2d39925e2edb2fed99837d44048935d35aa96d257510d0b5c84024431e7ef2e"), looks := false }, kinds := [], alts := [], laidByText := true, laidKinds := [.data, .data], laidTests := true, laidLooks := .later }
def AgentPlaysUptoCardSaid : Prop := Claim7.holds Tryd.pinned (.plain (OpenSpec.upto agentPlaysSpec)) agentPlaysUptoCard

/-- THE SECOND FORM's CARD OF 'bellowslaw08.AgentOne'. -/
def agentOneUptoCard : Claim7 := { stood := { row := agentOneUptoRow, standIns := [], harness := (true, "c2d39925e2edb2fed99837d44048935d35aa96d257510d0b5c84024431e7ef2e"), looks := false }, kinds := [], alts := [], laidByText := true, laidKinds := [.data, .data], laidTests := true, laidLooks := .later }
def AgentOneUptoCardSaid : Prop := Claim7.holds Tryd.pinned (.plain (OpenSpec.upto agentOneSpec)) agentOneUptoCard

/-- THE SECOND FORM's CARD OF 'bellowslaw08.AgentTells'. -/
def agentTellsUptoCard : Claim7 := { stood := { row := agentTellsUptoRow, standIns := [], harness := (true, "c2d39925e2edb2fed99837d44048935d35aa96d257510d0b5c84024431e7ef2e"), looks := false }, kinds := [], alts := [], laidByText := true, laidKinds := [.data, .data], laidTests := true, laidLooks := .later }
def AgentTellsUptoCardSaid : Prop := Claim7.holds Tryd.pinned (.plain (OpenSpec.upto agentTellsSpec)) agentTellsUptoCard

/-- THE SECOND FORM's CARD OF 'bellowslaw08.AgentNone'. -/
def agentNoneUptoCard : Claim7 := { stood := { row := agentNoneUptoRow, standIns := [], harness := (true, "c2d39925e2edb2fed99837d44048935d35aa96d257510d0b5c84024431e7ef2e"), looks := false }, kinds := [], alts := [], laidByText := true, laidKinds := [.data, .data], laidTests := true, laidLooks := .later }
def AgentNoneUptoCardSaid : Prop := Claim7.holds Tryd.pinned (.plain (OpenSpec.upto agentNoneSpec)) agentNoneUptoCard

/-- THE SECOND FORM's CARD OF 'bellowslaw08.AgentUps'. -/
def agentUpsUptoCard : Claim7 := { stood := { row := agentUpsUptoRow, standIns := [], harness := (true, "c2d39925e2edb2fed99837d44048935d35aa96d257510d0b5c84024431e7ef2e"), looks := false }, kinds := [], alts := [], laidByText := true, laidKinds := [.data, .data], laidTests := true, laidLooks := .later }
def AgentUpsUptoCardSaid : Prop := Claim7.holds Tryd.pinned (.plain (OpenSpec.upto agentUpsSpec)) agentUpsUptoCard

/-- THE SECOND FORM's CARD OF 'bellowslaw08.AgentRoom'. -/
def agentRoomUptoCard : Claim7 := { stood := { row := agentRoomUptoRow, standIns := [], harness := (true, "c2d39925e2edb2fed99837d44048935d35aa96d257510d0b5c84024431e7ef2e"), looks := false }, kinds := [], alts := [], laidByText := true, laidKinds := [.data, .data], laidTests := true, laidLooks := .later }
def AgentRoomUptoCardSaid : Prop := Claim7.holds Tryd.pinned (.plain (OpenSpec.upto agentRoomSpec)) agentRoomUptoCard

/-- THE SECOND FORM's CARD OF 'bellowslaw08.AgentWaits'. -/
def agentWaitsUptoCard : Claim7 := { stood := { row := agentWaitsUptoRow, standIns := [], harness := (true, "c2d39925e2edb2fed99837d44048935d35aa96d257510d0b5c84024431e7ef2e"), looks := false }, kinds := [], alts := [], laidByText := true, laidKinds := [.data, .data], laidTests := true, laidLooks := .later }
def AgentWaitsUptoCardSaid : Prop := Claim7.holds Tryd.pinned (.plain (OpenSpec.upto agentWaitsSpec)) agentWaitsUptoCard
end Rows
end Go.Proofs.YtakjbgnnajdloaaDoor
