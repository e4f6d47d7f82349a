/-
  DERIVED. GIVEN WITH THE SEED: THE PROGRAM's TIES (one call each: nine closed facts by the kernel) AND EACH ROW's TIE, after the 31st guide's Derived/Test/Toyas{Tie, Card}.lean. No idea stands in it: it is a product of the set-up. Laid BY PROGRAM, IN A SANDBOX (cutbox-door.mjs). By AI agents, Wed Nov 11 2026. No macro, syntax, notation, axiom, sorry.
-/
import Derived.Test.YtadeoflkppiflaaDoorRows
import Derived.LaidByTextLater
import Derived.SevenTiedAt
import Derived.LaidSub
import Derived.LaidOnce
namespace Go.Proofs.YtadeoflkppiflaaDoor
open Go
set_option maxRecDepth 100000
theorem seatTie1 : Tryd.prog.laidByTextLater [("bellows/msg.mayHave", Rows.laid_bellows_msg_mayHave), ("bellows/agent.becomes", Rows.laid_bellows_agent_becomes)] [.data, .data] true :=
  Program.laidByTextLater_by_one 32 8 151 (by kernel_rfl) (by kernel_rfl) (by kernel_rfl) (by kernel_rfl) (by kernel_rfl) (by kernel_rfl) (fun _ _ => by kernel_rfl)
theorem noOwnUnsafe : Tryd.pinned.checked.prog.headLifts.contains "ownunsafe" = false := by kernel_rfl
theorem tie : Tryd.prog.laidByTextLater [("bellows/msg.mayHave", Rows.laid_bellows_msg_mayHave), ("bellows/agent.becomes", Rows.laid_bellows_agent_becomes)] [.data, .data] true :=
  Program.laidByTextLater.sub seatTie1 ["bellows/msg.mayHave", "bellows/agent.becomes"] (by kernel_rfl) (by kernel_rfl)
theorem agentPlays_row_tie : Rows.agentPlaysRow.laidByTextAt .later Tryd.pinned [.data, .data] true :=
  OpenClaim.laidByTextAt_later rfl rfl tie noOwnUnsafe
theorem agentPlaysUpto_row_tie : Rows.agentPlaysUptoRow.laidByTextAt .later Tryd.pinned [.data, .data] true :=
  OpenClaim.laidByTextAt_later rfl rfl tie noOwnUnsafe
end Go.Proofs.YtadeoflkppiflaaDoor
