/-
  NARROWER THAN 'FOR EVERY INPUT', by the rows' own cells (each row's printed sentence says how): AgentPlays: laid · AgentOne: laid · AgentTells: laid · AgentNone: laid · AgentUps: laid · AgentRoom: laid · AgentWaits: laid.
  DERIVED. THE GIVEN ROWS OF THIS SEAT. 7 by the template 'for every input the law returns true; each argument reads behind the call as it read before'; 0 by the template 'total and deterministic' (their statements: YtakjbgnnajdloaaDoorTotals.lean).
  GIVEN WITH THE SEED: the statements are not yours to turn. If you find one false, say at which input.
  Laid BY PROGRAM, IN A SANDBOX (cutbox-rows.mjs): the forced cells as the released guide's own fill.sh prints them over the translation d7a4d1bdefc54397… (all of the seat's roots in one cut). By AI agents, Wed Nov 11 2026. No macro, syntax, notation, axiom, sorry.
-/
import Derived.Test.YtakjbgnnajdloaaDoorChecked
import GoSem.Claim
import GoSem.ClaimJoined
import GoSem.ClaimMapViews
import Derived.JoinedTies
import Derived.KernelRfl
namespace Go.Proofs.YtakjbgnnajdloaaDoor
/- THE CELL 'sum', in the pinned program and in every row, IS THE sha256 OF THE DUMP (.gsa) THAT YtakjbgnnajdloaaDoorProg.lean LOADS. Nothing in Lean hashes anything: it is a label: what it is worth is what the hold of that sum in a sandbox is worth. -/
noncomputable def Tryd.pinned : Pinned := { name := "ytakjbgnnajdloaadoor", sum := "d7a4d1bdefc543973b77943ccd181dd3bc1ee8260439bcc02c281ae04d4eb2c3", checked := Tryd.checked }
namespace Rows
def none {H : Type} : Left H := { results := [], args := [] }

/- WHAT THE LISTED PACKAGE-LEVEL VARIABLES READ AS WHEN THE CALL BEGINS. Each datum BY PROGRAM (the guide's laid-datum.mjs) off the statement by which the dump's own 'gosem.cut.vars' lays the variable. In a bare row this is a premise. The card (YtakjbgnnajdloaaDoorCards.lean) ties it to the program's text. -/
def laid_bellows_msg_mayHave {H : Type} : DataW H := .agg [.agg [.lit (.bool false), .lit (.bool false), .lit (.bool false)], .agg [.lit (.bool false), .lit (.bool false), .lit (.bool false)], .agg [.lit (.bool false), .lit (.bool false), .lit (.bool false)], .agg [.lit (.bool true), .lit (.bool false), .lit (.bool false)], .agg [.lit (.bool false), .lit (.bool false), .lit (.bool false)], .agg [.lit (.bool false), .lit (.bool false), .lit (.bool false)], .agg [.lit (.bool true), .lit (.bool false), .lit (.bool false)], .agg [.lit (.bool true), .lit (.bool true), .lit (.bool false)], .agg [.lit (.bool false), .lit (.bool false), .lit (.bool true)], .agg [.lit (.bool false), .lit (.bool false), .lit (.bool true)], .agg [.lit (.bool false), .lit (.bool false), .lit (.bool true)], .agg [.lit (.bool false), .lit (.bool false), .lit (.bool false)], .agg [.lit (.bool false), .lit (.bool false), .lit (.bool false)], .agg [.lit (.bool false), .lit (.bool false), .lit (.bool false)], .agg [.lit (.bool false), .lit (.bool false), .lit (.bool false)]]
def laid_bellows_agent_becomes {H : Type} : DataW H := .agg [.agg [.lit (.int .i64 0), .lit (.int .i64 0), .lit (.int .i64 0), .lit (.int .i64 0), .lit (.int .i64 0), .lit (.int .i64 0), .lit (.int .i64 0), .lit (.int .i64 0), .lit (.int .i64 0), .lit (.int .i64 0)], .agg [.lit (.int .i64 0), .lit (.int .i64 0), .lit (.int .i64 0), .lit (.int .i64 0), .lit (.int .i64 0), .lit (.int .i64 0), .lit (.int .i64 0), .lit (.int .i64 0), .lit (.int .i64 0), .lit (.int .i64 0)], .agg [.lit (.int .i64 0), .lit (.int .i64 0), .lit (.int .i64 0), .lit (.int .i64 0), .lit (.int .i64 0), .lit (.int .i64 0), .lit (.int .i64 0), .lit (.int .i64 0), .lit (.int .i64 0), .lit (.int .i64 0)], .agg [.lit (.int .i64 0), .lit (.int .i64 0), .lit (.int .i64 0), .lit (.int .i64 0), .lit (.int .i64 0), .lit (.int .i64 0), .lit (.int .i64 0), .lit (.int .i64 0), .lit (.int .i64 0), .lit (.int .i64 0)], .agg [.lit (.int .i64 0), .lit (.int .i64 0), .lit (.int .i64 0), .lit (.int .i64 0), .lit (.int .i64 0), .lit (.int .i64 0), .lit (.int .i64 0), .lit (.int .i64 0), .lit (.int .i64 0), .lit (.int .i64 0)], .agg [.lit (.int .i64 0), .lit (.int .i64 0), .lit (.int .i64 0), .lit (.int .i64 0), .lit (.int .i64 0), .lit (.int .i64 0), .lit (.int .i64 0), .lit (.int .i64 0), .lit (.int .i64 0), .lit (.int .i64 0)], .agg [.lit (.int .i64 0), .lit (.int .i64 0), .lit (.int .i64 0), .lit (.int .i64 0), .lit (.int .i64 0), .lit (.int .i64 0), .lit (.int .i64 0), .lit (.int .i64 0), .lit (.int .i64 0), .lit (.int .i64 0)], .agg [.lit (.int .i64 0), .lit (.int .i64 0), .lit (.int .i64 0), .lit (.int .i64 0), .lit (.int .i64 0), .lit (.int .i64 0), .lit (.int .i64 0), .lit (.int .i64 0), .lit (.int .i64 0), .lit (.int .i64 0)], .agg [.lit (.int .i64 0), .lit (.int .i64 0), .lit (.int .i64 0), .lit (.int .i64 0), .lit (.int .i64 1), .lit (.int .i64 0), .lit (.int .i64 0), .lit (.int .i64 0), .lit (.int .i64 0), .lit (.int .i64 0)], .agg [.lit (.int .i64 0), .lit (.int .i64 0), .lit (.int .i64 0), .lit (.int .i64 0), .lit (.int .i64 2), .lit (.int .i64 0), .lit (.int .i64 0), .lit (.int .i64 0), .lit (.int .i64 0), .lit (.int .i64 0)], .agg [.lit (.int .i64 0), .lit (.int .i64 0), .lit (.int .i64 0), .lit (.int .i64 0), .lit (.int .i64 0), .lit (.int .i64 2), .lit (.int .i64 2), .lit (.int .i64 0), .lit (.int .i64 0), .lit (.int .i64 0)], .agg [.lit (.int .i64 0), .lit (.int .i64 0), .lit (.int .i64 0), .lit (.int .i64 0), .lit (.int .i64 0), .lit (.int .i64 0), .lit (.int .i64 0), .lit (.int .i64 10), .lit (.int .i64 10), .lit (.int .i64 10)], .agg [.lit (.int .i64 0), .lit (.int .i64 10), .lit (.int .i64 10), .lit (.int .i64 10), .lit (.int .i64 0), .lit (.int .i64 0), .lit (.int .i64 5), .lit (.int .i64 8), .lit (.int .i64 0), .lit (.int .i64 8)], .agg [.lit (.int .i64 0), .lit (.int .i64 0), .lit (.int .i64 1), .lit (.int .i64 1), .lit (.int .i64 0), .lit (.int .i64 0), .lit (.int .i64 0), .lit (.int .i64 8), .lit (.int .i64 0), .lit (.int .i64 8)], .agg [.lit (.int .i64 11), .lit (.int .i64 11), .lit (.int .i64 11), .lit (.int .i64 11), .lit (.int .i64 11), .lit (.int .i64 11), .lit (.int .i64 11), .lit (.int .i64 11), .lit (.int .i64 11), .lit (.int .i64 11)]]

/-- 'bellowslaw08.AgentPlays': WHATEVER THE INPUT: true; the input reads as it did. -/
def agentPlaysSpec : ChangeSpec := { name := "agentPlays", fn := fun _ => fun
  | [d1, d2, d3] => { results := [.lit (.bool true)], args := [d1, d2, d3] }
  | _ => none }
def agentPlaysRow : OpenClaim := { program := "ytakjbgnnajdloaadoor", sum := "d7a4d1bdefc543973b77943ccd181dd3bc1ee8260439bcc02c281ae04d4eb2c3", func := "bellows/bellowslaw08.AgentPlays", spec := "agentPlays", named := ["bellows/agent.becomes", "bellows/msg.mayHave"], apart := false, laid := [("bellows/msg.mayHave", laid_bellows_msg_mayHave), ("bellows/agent.becomes", laid_bellows_agent_becomes)] }
def AgentPlaysSaid : Prop := agentPlaysRow.holds Tryd.pinned (OpenSpec.ofChange agentPlaysSpec)

/-- ITS FALSE NEIGHBOUR: 'it returns false'. Refute it at one input. -/
def agentPlaysWrong : ChangeSpec := { name := "agentPlays", fn := fun _ => fun
  | [d1, d2, d3] => { results := [.lit (.bool false)], args := [d1, d2, d3] }
  | _ => none }
def AgentPlaysWrongFalsely : Prop := agentPlaysRow.holds Tryd.pinned (OpenSpec.ofChange agentPlaysWrong)

/-- 'bellowslaw08.AgentOne': WHATEVER THE INPUT: true; the input reads as it did. -/
def agentOneSpec : ChangeSpec := { name := "agentOne", fn := fun _ => fun
  | [d1, d2, d3] => { results := [.lit (.bool true)], args := [d1, d2, d3] }
  | _ => none }
def agentOneRow : OpenClaim := { program := "ytakjbgnnajdloaadoor", sum := "d7a4d1bdefc543973b77943ccd181dd3bc1ee8260439bcc02c281ae04d4eb2c3", func := "bellows/bellowslaw08.AgentOne", spec := "agentOne", named := ["bellows/agent.becomes", "bellows/msg.mayHave"], apart := false, laid := [("bellows/msg.mayHave", laid_bellows_msg_mayHave), ("bellows/agent.becomes", laid_bellows_agent_becomes)] }
def AgentOneSaid : Prop := agentOneRow.holds Tryd.pinned (OpenSpec.ofChange agentOneSpec)

/-- ITS FALSE NEIGHBOUR: 'it returns false'. Refute it at one input. -/
def agentOneWrong : ChangeSpec := { name := "agentOne", fn := fun _ => fun
  | [d1, d2, d3] => { results := [.lit (.bool false)], args := [d1, d2, d3] }
  | _ => none }
def AgentOneWrongFalsely : Prop := agentOneRow.holds Tryd.pinned (OpenSpec.ofChange agentOneWrong)

/-- 'bellowslaw08.AgentTells': WHATEVER THE INPUT: true; the input reads as it did. -/
def agentTellsSpec : ChangeSpec := { name := "agentTells", fn := fun _ => fun
  | [d1, d2, d3] => { results := [.lit (.bool true)], args := [d1, d2, d3] }
  | _ => none }
def agentTellsRow : OpenClaim := { program := "ytakjbgnnajdloaadoor", sum := "d7a4d1bdefc543973b77943ccd181dd3bc1ee8260439bcc02c281ae04d4eb2c3", func := "bellows/bellowslaw08.AgentTells", spec := "agentTells", named := ["bellows/agent.becomes", "bellows/msg.mayHave"], apart := false, laid := [("bellows/msg.mayHave", laid_bellows_msg_mayHave), ("bellows/agent.becomes", laid_bellows_agent_becomes)] }
def AgentTellsSaid : Prop := agentTellsRow.holds Tryd.pinned (OpenSpec.ofChange agentTellsSpec)

/-- ITS FALSE NEIGHBOUR: 'it returns false'. Refute it at one input. -/
def agentTellsWrong : ChangeSpec := { name := "agentTells", fn := fun _ => fun
  | [d1, d2, d3] => { results := [.lit (.bool false)], args := [d1, d2, d3] }
  | _ => none }
def AgentTellsWrongFalsely : Prop := agentTellsRow.holds Tryd.pinned (OpenSpec.ofChange agentTellsWrong)

/-- 'bellowslaw08.AgentNone': WHATEVER THE INPUT: true; the input reads as it did. -/
def agentNoneSpec : ChangeSpec := { name := "agentNone", fn := fun _ => fun
  | [d] => { results := [.lit (.bool true)], args := [d] }
  | _ => none }
def agentNoneRow : OpenClaim := { program := "ytakjbgnnajdloaadoor", sum := "d7a4d1bdefc543973b77943ccd181dd3bc1ee8260439bcc02c281ae04d4eb2c3", func := "bellows/bellowslaw08.AgentNone", spec := "agentNone", named := ["bellows/agent.becomes", "bellows/msg.mayHave"], apart := false, laid := [("bellows/msg.mayHave", laid_bellows_msg_mayHave), ("bellows/agent.becomes", laid_bellows_agent_becomes)] }
def AgentNoneSaid : Prop := agentNoneRow.holds Tryd.pinned (OpenSpec.ofChange agentNoneSpec)

/-- ITS FALSE NEIGHBOUR: 'it returns false'. Refute it at one input. -/
def agentNoneWrong : ChangeSpec := { name := "agentNone", fn := fun _ => fun
  | [d] => { results := [.lit (.bool false)], args := [d] }
  | _ => none }
def AgentNoneWrongFalsely : Prop := agentNoneRow.holds Tryd.pinned (OpenSpec.ofChange agentNoneWrong)

/-- 'bellowslaw08.AgentUps': WHATEVER THE INPUT: true; the input reads as it did. -/
def agentUpsSpec : ChangeSpec := { name := "agentUps", fn := fun _ => fun
  | [d1, d2, d3] => { results := [.lit (.bool true)], args := [d1, d2, d3] }
  | _ => none }
def agentUpsRow : OpenClaim := { program := "ytakjbgnnajdloaadoor", sum := "d7a4d1bdefc543973b77943ccd181dd3bc1ee8260439bcc02c281ae04d4eb2c3", func := "bellows/bellowslaw08.AgentUps", spec := "agentUps", named := ["bellows/agent.becomes", "bellows/msg.mayHave"], apart := false, laid := [("bellows/msg.mayHave", laid_bellows_msg_mayHave), ("bellows/agent.becomes", laid_bellows_agent_becomes)] }
def AgentUpsSaid : Prop := agentUpsRow.holds Tryd.pinned (OpenSpec.ofChange agentUpsSpec)

/-- ITS FALSE NEIGHBOUR: 'it returns false'. Refute it at one input. -/
def agentUpsWrong : ChangeSpec := { name := "agentUps", fn := fun _ => fun
  | [d1, d2, d3] => { results := [.lit (.bool false)], args := [d1, d2, d3] }
  | _ => none }
def AgentUpsWrongFalsely : Prop := agentUpsRow.holds Tryd.pinned (OpenSpec.ofChange agentUpsWrong)

/-- 'bellowslaw08.AgentRoom': WHATEVER THE INPUT: true; the input reads as it did. -/
def agentRoomSpec : ChangeSpec := { name := "agentRoom", fn := fun _ => fun
  | [d1, d2] => { results := [.lit (.bool true)], args := [d1, d2] }
  | _ => none }
def agentRoomRow : OpenClaim := { program := "ytakjbgnnajdloaadoor", sum := "d7a4d1bdefc543973b77943ccd181dd3bc1ee8260439bcc02c281ae04d4eb2c3", func := "bellows/bellowslaw08.AgentRoom", spec := "agentRoom", named := ["bellows/agent.becomes", "bellows/msg.mayHave"], apart := false, laid := [("bellows/msg.mayHave", laid_bellows_msg_mayHave), ("bellows/agent.becomes", laid_bellows_agent_becomes)] }
def AgentRoomSaid : Prop := agentRoomRow.holds Tryd.pinned (OpenSpec.ofChange agentRoomSpec)

/-- ITS FALSE NEIGHBOUR: 'it returns false'. Refute it at one input. -/
def agentRoomWrong : ChangeSpec := { name := "agentRoom", fn := fun _ => fun
  | [d1, d2] => { results := [.lit (.bool false)], args := [d1, d2] }
  | _ => none }
def AgentRoomWrongFalsely : Prop := agentRoomRow.holds Tryd.pinned (OpenSpec.ofChange agentRoomWrong)

/-- 'bellowslaw08.AgentWaits': WHATEVER THE INPUT: true; the input reads as it did. -/
def agentWaitsSpec : ChangeSpec := { name := "agentWaits", fn := fun _ => fun
  | [d1, d2] => { results := [.lit (.bool true)], args := [d1, d2] }
  | _ => none }
def agentWaitsRow : OpenClaim := { program := "ytakjbgnnajdloaadoor", sum := "d7a4d1bdefc543973b77943ccd181dd3bc1ee8260439bcc02c281ae04d4eb2c3", func := "bellows/bellowslaw08.AgentWaits", spec := "agentWaits", named := ["bellows/agent.becomes", "bellows/msg.mayHave"], apart := false, laid := [("bellows/msg.mayHave", laid_bellows_msg_mayHave), ("bellows/agent.becomes", laid_bellows_agent_becomes)] }
def AgentWaitsSaid : Prop := agentWaitsRow.holds Tryd.pinned (OpenSpec.ofChange agentWaitsSpec)

/-- ITS FALSE NEIGHBOUR: 'it returns false'. Refute it at one input. -/
def agentWaitsWrong : ChangeSpec := { name := "agentWaits", fn := fun _ => fun
  | [d1, d2] => { results := [.lit (.bool false)], args := [d1, d2] }
  | _ => none }
def AgentWaitsWrongFalsely : Prop := agentWaitsRow.holds Tryd.pinned (OpenSpec.ofChange agentWaitsWrong)

/- THE SECOND FORM. 'bulk': how many values and letters a reading holds, each counted each time it is reached (what is shared counts as often as it is met; a slice's spare places count too). A statement '..UptoSaid' is the law's where the arguments, and the package variables that the reading takes, are together of bulk at most 1048576: NARROWER than '..Said'. Prove '..Said' where nothing that the law and all that it calls make is longer than what came in: it says more and counts as full. Else prove '..UptoSaid'. A law counts once. -/
mutual
def uptoBulk {H : Type} : DataW H → Nat
  | .lit (.string bytes) => bytes.length + 1
  | .lit _ => 1
  | .nil => 1
  | .ptr d => uptoBulk d + 1
  | .slice elems spare => uptoBulkAll elems + uptoBulkAll spare + 1
  | .agg parts => uptoBulkAll parts + 1
  | .iface _ d => uptoBulk d + 1
  | .map entries => uptoBulkEntries entries + 1
  | .held _ => 1
def uptoBulkAll {H : Type} : List (DataW H) → Nat
  | [] => 0
  | d :: r => uptoBulk d + uptoBulkAll r
def uptoBulkEntries {H : Type} : List (Lit × DataW H) → Nat
  | [] => 0
  | x :: r => uptoBulkEntry x + uptoBulkEntries r
def uptoBulkEntry {H : Type} : Lit × DataW H → Nat
  | (.string bytes, d) => bytes.length + uptoBulk d + 1
  | (_, d) => uptoBulk d + 1
 end
def uptoSmall : (H : Type) → List (DataW H) → Bool := fun _ ds => decide (uptoBulkAll ds ≤ 1048576)
def OpenSpec.upto (s : _root_.Go.ChangeSpec) : _root_.Go.OpenSpec := { _root_.Go.OpenSpec.ofChange s with cond := some uptoSmall }

/-- 'bellowslaw08.AgentPlays', WHERE WHAT IT READS IS OF BULK AT MOST 1048576: true; the input reads as it did. -/
def agentPlaysUptoRow : OpenClaim := { program := "ytakjbgnnajdloaadoor", sum := "d7a4d1bdefc543973b77943ccd181dd3bc1ee8260439bcc02c281ae04d4eb2c3", func := "bellows/bellowslaw08.AgentPlays", spec := "agentPlays", named := ["bellows/agent.becomes", "bellows/msg.mayHave"], apart := false, laid := [("bellows/msg.mayHave", laid_bellows_msg_mayHave), ("bellows/agent.becomes", laid_bellows_agent_becomes)], narrowed := true }
def AgentPlaysUptoSaid : Prop := agentPlaysUptoRow.holds Tryd.pinned (OpenSpec.upto agentPlaysSpec)

/-- 'bellowslaw08.AgentOne', WHERE WHAT IT READS IS OF BULK AT MOST 1048576: true; the input reads as it did. -/
def agentOneUptoRow : OpenClaim := { program := "ytakjbgnnajdloaadoor", sum := "d7a4d1bdefc543973b77943ccd181dd3bc1ee8260439bcc02c281ae04d4eb2c3", func := "bellows/bellowslaw08.AgentOne", spec := "agentOne", named := ["bellows/agent.becomes", "bellows/msg.mayHave"], apart := false, laid := [("bellows/msg.mayHave", laid_bellows_msg_mayHave), ("bellows/agent.becomes", laid_bellows_agent_becomes)], narrowed := true }
def AgentOneUptoSaid : Prop := agentOneUptoRow.holds Tryd.pinned (OpenSpec.upto agentOneSpec)

/-- 'bellowslaw08.AgentTells', WHERE WHAT IT READS IS OF BULK AT MOST 1048576: true; the input reads as it did. -/
def agentTellsUptoRow : OpenClaim := { program := "ytakjbgnnajdloaadoor", sum := "d7a4d1bdefc543973b77943ccd181dd3bc1ee8260439bcc02c281ae04d4eb2c3", func := "bellows/bellowslaw08.AgentTells", spec := "agentTells", named := ["bellows/agent.becomes", "bellows/msg.mayHave"], apart := false, laid := [("bellows/msg.mayHave", laid_bellows_msg_mayHave), ("bellows/agent.becomes", laid_bellows_agent_becomes)], narrowed := true }
def AgentTellsUptoSaid : Prop := agentTellsUptoRow.holds Tryd.pinned (OpenSpec.upto agentTellsSpec)

/-- 'bellowslaw08.AgentNone', WHERE WHAT IT READS IS OF BULK AT MOST 1048576: true; the input reads as it did. -/
def agentNoneUptoRow : OpenClaim := { program := "ytakjbgnnajdloaadoor", sum := "d7a4d1bdefc543973b77943ccd181dd3bc1ee8260439bcc02c281ae04d4eb2c3", func := "bellows/bellowslaw08.AgentNone", spec := "agentNone", named := ["bellows/agent.becomes", "bellows/msg.mayHave"], apart := false, laid := [("bellows/msg.mayHave", laid_bellows_msg_mayHave), ("bellows/agent.becomes", laid_bellows_agent_becomes)], narrowed := true }
def AgentNoneUptoSaid : Prop := agentNoneUptoRow.holds Tryd.pinned (OpenSpec.upto agentNoneSpec)

/-- 'bellowslaw08.AgentUps', WHERE WHAT IT READS IS OF BULK AT MOST 1048576: true; the input reads as it did. -/
def agentUpsUptoRow : OpenClaim := { program := "ytakjbgnnajdloaadoor", sum := "d7a4d1bdefc543973b77943ccd181dd3bc1ee8260439bcc02c281ae04d4eb2c3", func := "bellows/bellowslaw08.AgentUps", spec := "agentUps", named := ["bellows/agent.becomes", "bellows/msg.mayHave"], apart := false, laid := [("bellows/msg.mayHave", laid_bellows_msg_mayHave), ("bellows/agent.becomes", laid_bellows_agent_becomes)], narrowed := true }
def AgentUpsUptoSaid : Prop := agentUpsUptoRow.holds Tryd.pinned (OpenSpec.upto agentUpsSpec)

/-- 'bellowslaw08.AgentRoom', WHERE WHAT IT READS IS OF BULK AT MOST 1048576: true; the input reads as it did. -/
def agentRoomUptoRow : OpenClaim := { program := "ytakjbgnnajdloaadoor", sum := "d7a4d1bdefc543973b77943ccd181dd3bc1ee8260439bcc02c281ae04d4eb2c3", func := "bellows/bellowslaw08.AgentRoom", spec := "agentRoom", named := ["bellows/agent.becomes", "bellows/msg.mayHave"], apart := false, laid := [("bellows/msg.mayHave", laid_bellows_msg_mayHave), ("bellows/agent.becomes", laid_bellows_agent_becomes)], narrowed := true }
def AgentRoomUptoSaid : Prop := agentRoomUptoRow.holds Tryd.pinned (OpenSpec.upto agentRoomSpec)

/-- 'bellowslaw08.AgentWaits', WHERE WHAT IT READS IS OF BULK AT MOST 1048576: true; the input reads as it did. -/
def agentWaitsUptoRow : OpenClaim := { program := "ytakjbgnnajdloaadoor", sum := "d7a4d1bdefc543973b77943ccd181dd3bc1ee8260439bcc02c281ae04d4eb2c3", func := "bellows/bellowslaw08.AgentWaits", spec := "agentWaits", named := ["bellows/agent.becomes", "bellows/msg.mayHave"], apart := false, laid := [("bellows/msg.mayHave", laid_bellows_msg_mayHave), ("bellows/agent.becomes", laid_bellows_agent_becomes)], narrowed := true }
def AgentWaitsUptoSaid : Prop := agentWaitsUptoRow.holds Tryd.pinned (OpenSpec.upto agentWaitsSpec)

end Rows
end Go.Proofs.YtakjbgnnajdloaaDoor
