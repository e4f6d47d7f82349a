/-
  NARROWER THAN 'FOR EVERY INPUT', by the rows' own cells (each row's printed sentence says how): MsgForms: laid · MsgQueues: laid · MsgFull: laid · MsgNone: laid · MsgKinds: laid.
  DERIVED. THE GIVEN ROWS OF THIS SEAT. 5 by the template 'for every input the law returns true; each argument reads behind the call as it read before'; 0 by the template 'total and deterministic' (their statements: YtkbogampnjamiaaDoorTotals.lean).
  GIVEN WITH THE SEED: the statements are not yours to turn. If you find one false, say at which input.
  Laid BY PROGRAM, IN A SANDBOX (cutbox-rows.mjs): the forced cells as the released guide's own fill.sh prints them over the translation e301bfdff327692e… (all of the seat's roots in one cut). By AI agents, Wed Nov 11 2026. No macro, syntax, notation, axiom, sorry.
-/
import Derived.Test.YtkbogampnjamiaaDoorChecked
import GoSem.Claim
import GoSem.ClaimJoined
import GoSem.ClaimMapViews
import Derived.JoinedTies
import Derived.KernelRfl
namespace Go.Proofs.YtkbogampnjamiaaDoor
/- THE CELL 'sum', in the pinned program and in every row, IS THE sha256 OF THE DUMP (.gsa) THAT YtkbogampnjamiaaDoorProg.lean LOADS. Nothing in Lean hashes anything: it is a label: what it is worth is what the hold of that sum in a sandbox is worth. -/
noncomputable def Tryd.pinned : Pinned := { name := "ytkbogampnjamiaadoor", sum := "e301bfdff327692e284fab7d41692d03e7c8f32ba33d6eb9619ffc729a226e8a", checked := Tryd.checked }
namespace Rows
def none {H : Type} : Left H := { results := [], args := [] }

/- WHAT THE LISTED PACKAGE-LEVEL VARIABLES READ AS WHEN THE CALL BEGINS. Each datum BY PROGRAM (the guide's laid-datum.mjs) off the statement by which the dump's own 'gosem.cut.vars' lays the variable. In a bare row this is a premise. The card (YtkbogampnjamiaaDoorCards.lean) ties it to the program's text. -/
def laid_bellows_msg_mayHave {H : Type} : DataW H := .agg [.agg [.lit (.bool false), .lit (.bool false), .lit (.bool false)], .agg [.lit (.bool false), .lit (.bool false), .lit (.bool false)], .agg [.lit (.bool false), .lit (.bool false), .lit (.bool false)], .agg [.lit (.bool true), .lit (.bool false), .lit (.bool false)], .agg [.lit (.bool false), .lit (.bool false), .lit (.bool false)], .agg [.lit (.bool false), .lit (.bool false), .lit (.bool false)], .agg [.lit (.bool true), .lit (.bool false), .lit (.bool false)], .agg [.lit (.bool true), .lit (.bool true), .lit (.bool false)], .agg [.lit (.bool false), .lit (.bool false), .lit (.bool true)], .agg [.lit (.bool false), .lit (.bool false), .lit (.bool true)], .agg [.lit (.bool false), .lit (.bool false), .lit (.bool true)], .agg [.lit (.bool false), .lit (.bool false), .lit (.bool false)], .agg [.lit (.bool false), .lit (.bool false), .lit (.bool false)], .agg [.lit (.bool false), .lit (.bool false), .lit (.bool false)], .agg [.lit (.bool false), .lit (.bool false), .lit (.bool false)]]

/-- 'bellowslaw06.MsgForms': WHATEVER THE INPUT: true; the input reads as it did. -/
def msgFormsSpec : ChangeSpec := { name := "msgForms", fn := fun _ => fun
  | [d] => { results := [.lit (.bool true)], args := [d] }
  | _ => none }
def msgFormsRow : OpenClaim := { program := "ytkbogampnjamiaadoor", sum := "e301bfdff327692e284fab7d41692d03e7c8f32ba33d6eb9619ffc729a226e8a", func := "bellows/bellowslaw06.MsgForms", spec := "msgForms", named := ["bellows/msg.mayHave"], apart := false, laid := [("bellows/msg.mayHave", laid_bellows_msg_mayHave)] }
def MsgFormsSaid : Prop := msgFormsRow.holds Tryd.pinned (OpenSpec.ofChange msgFormsSpec)

/-- ITS FALSE NEIGHBOUR: 'it returns false'. Refute it at one input. -/
def msgFormsWrong : ChangeSpec := { name := "msgForms", fn := fun _ => fun
  | [d] => { results := [.lit (.bool false)], args := [d] }
  | _ => none }
def MsgFormsWrongFalsely : Prop := msgFormsRow.holds Tryd.pinned (OpenSpec.ofChange msgFormsWrong)

/-- 'bellowslaw06.MsgQueues': WHATEVER THE INPUT: true; the input reads as it did. -/
def msgQueuesSpec : ChangeSpec := { name := "msgQueues", fn := fun _ => fun
  | [d] => { results := [.lit (.bool true)], args := [d] }
  | _ => none }
def msgQueuesRow : OpenClaim := { program := "ytkbogampnjamiaadoor", sum := "e301bfdff327692e284fab7d41692d03e7c8f32ba33d6eb9619ffc729a226e8a", func := "bellows/bellowslaw06.MsgQueues", spec := "msgQueues", named := ["bellows/msg.mayHave"], apart := false, laid := [("bellows/msg.mayHave", laid_bellows_msg_mayHave)] }
def MsgQueuesSaid : Prop := msgQueuesRow.holds Tryd.pinned (OpenSpec.ofChange msgQueuesSpec)

/-- ITS FALSE NEIGHBOUR: 'it returns false'. Refute it at one input. -/
def msgQueuesWrong : ChangeSpec := { name := "msgQueues", fn := fun _ => fun
  | [d] => { results := [.lit (.bool false)], args := [d] }
  | _ => none }
def MsgQueuesWrongFalsely : Prop := msgQueuesRow.holds Tryd.pinned (OpenSpec.ofChange msgQueuesWrong)

/-- 'bellowslaw06.MsgFull': WHATEVER THE INPUT: true; the input reads as it did. -/
def msgFullSpec : ChangeSpec := { name := "msgFull", fn := fun _ => fun
  | [d] => { results := [.lit (.bool true)], args := [d] }
  | _ => none }
def msgFullRow : OpenClaim := { program := "ytkbogampnjamiaadoor", sum := "e301bfdff327692e284fab7d41692d03e7c8f32ba33d6eb9619ffc729a226e8a", func := "bellows/bellowslaw06.MsgFull", spec := "msgFull", named := ["bellows/msg.mayHave"], apart := false, laid := [("bellows/msg.mayHave", laid_bellows_msg_mayHave)] }
def MsgFullSaid : Prop := msgFullRow.holds Tryd.pinned (OpenSpec.ofChange msgFullSpec)

/-- ITS FALSE NEIGHBOUR: 'it returns false'. Refute it at one input. -/
def msgFullWrong : ChangeSpec := { name := "msgFull", fn := fun _ => fun
  | [d] => { results := [.lit (.bool false)], args := [d] }
  | _ => none }
def MsgFullWrongFalsely : Prop := msgFullRow.holds Tryd.pinned (OpenSpec.ofChange msgFullWrong)

/-- 'bellowslaw06.MsgNone': WHATEVER THE INPUT: true; the input reads as it did. -/
def msgNoneSpec : ChangeSpec := { name := "msgNone", fn := fun _ => fun
  | [d] => { results := [.lit (.bool true)], args := [d] }
  | _ => none }
def msgNoneRow : OpenClaim := { program := "ytkbogampnjamiaadoor", sum := "e301bfdff327692e284fab7d41692d03e7c8f32ba33d6eb9619ffc729a226e8a", func := "bellows/bellowslaw06.MsgNone", spec := "msgNone", named := ["bellows/msg.mayHave"], apart := false, laid := [("bellows/msg.mayHave", laid_bellows_msg_mayHave)] }
def MsgNoneSaid : Prop := msgNoneRow.holds Tryd.pinned (OpenSpec.ofChange msgNoneSpec)

/-- ITS FALSE NEIGHBOUR: 'it returns false'. Refute it at one input. -/
def msgNoneWrong : ChangeSpec := { name := "msgNone", fn := fun _ => fun
  | [d] => { results := [.lit (.bool false)], args := [d] }
  | _ => none }
def MsgNoneWrongFalsely : Prop := msgNoneRow.holds Tryd.pinned (OpenSpec.ofChange msgNoneWrong)

/-- 'bellowslaw06.MsgKinds': WHATEVER THE INPUT: true; the input reads as it did. -/
def msgKindsSpec : ChangeSpec := { name := "msgKinds", fn := fun _ => fun
  | [d1, d2] => { results := [.lit (.bool true)], args := [d1, d2] }
  | _ => none }
def msgKindsRow : OpenClaim := { program := "ytkbogampnjamiaadoor", sum := "e301bfdff327692e284fab7d41692d03e7c8f32ba33d6eb9619ffc729a226e8a", func := "bellows/bellowslaw06.MsgKinds", spec := "msgKinds", named := ["bellows/msg.mayHave"], apart := false, laid := [("bellows/msg.mayHave", laid_bellows_msg_mayHave)] }
def MsgKindsSaid : Prop := msgKindsRow.holds Tryd.pinned (OpenSpec.ofChange msgKindsSpec)

/-- ITS FALSE NEIGHBOUR: 'it returns false'. Refute it at one input. -/
def msgKindsWrong : ChangeSpec := { name := "msgKinds", fn := fun _ => fun
  | [d1, d2] => { results := [.lit (.bool false)], args := [d1, d2] }
  | _ => none }
def MsgKindsWrongFalsely : Prop := msgKindsRow.holds Tryd.pinned (OpenSpec.ofChange msgKindsWrong)

/- THE SECOND FORM. 'bulk': how many values and letters a reading holds, each counted each time it is reached (what is shared counts as often as it is met; a slice's spare places count too). A statement '..UptoSaid' is the law's where the arguments, and the package variables that the reading takes, are together of bulk at most 1048576: NARROWER than '..Said'. Prove '..Said' where nothing that the law and all that it calls make is longer than what came in: it says more and counts as full. Else prove '..UptoSaid'. A law counts once. -/
mutual
def uptoBulk {H : Type} : DataW H → Nat
  | .lit (.string bytes) => bytes.length + 1
  | .lit _ => 1
  | .nil => 1
  | .ptr d => uptoBulk d + 1
  | .slice elems spare => uptoBulkAll elems + uptoBulkAll spare + 1
  | .agg parts => uptoBulkAll parts + 1
  | .iface _ d => uptoBulk d + 1
  | .map entries => uptoBulkEntries entries + 1
  | .held _ => 1
def uptoBulkAll {H : Type} : List (DataW H) → Nat
  | [] => 0
  | d :: r => uptoBulk d + uptoBulkAll r
def uptoBulkEntries {H : Type} : List (Lit × DataW H) → Nat
  | [] => 0
  | x :: r => uptoBulkEntry x + uptoBulkEntries r
def uptoBulkEntry {H : Type} : Lit × DataW H → Nat
  | (.string bytes, d) => bytes.length + uptoBulk d + 1
  | (_, d) => uptoBulk d + 1
 end
def uptoSmall : (H : Type) → List (DataW H) → Bool := fun _ ds => decide (uptoBulkAll ds ≤ 1048576)
def OpenSpec.upto (s : _root_.Go.ChangeSpec) : _root_.Go.OpenSpec := { _root_.Go.OpenSpec.ofChange s with cond := some uptoSmall }

/-- 'bellowslaw06.MsgForms', WHERE WHAT IT READS IS OF BULK AT MOST 1048576: true; the input reads as it did. -/
def msgFormsUptoRow : OpenClaim := { program := "ytkbogampnjamiaadoor", sum := "e301bfdff327692e284fab7d41692d03e7c8f32ba33d6eb9619ffc729a226e8a", func := "bellows/bellowslaw06.MsgForms", spec := "msgForms", named := ["bellows/msg.mayHave"], apart := false, laid := [("bellows/msg.mayHave", laid_bellows_msg_mayHave)], narrowed := true }
def MsgFormsUptoSaid : Prop := msgFormsUptoRow.holds Tryd.pinned (OpenSpec.upto msgFormsSpec)

/-- 'bellowslaw06.MsgQueues', WHERE WHAT IT READS IS OF BULK AT MOST 1048576: true; the input reads as it did. -/
def msgQueuesUptoRow : OpenClaim := { program := "ytkbogampnjamiaadoor", sum := "e301bfdff327692e284fab7d41692d03e7c8f32ba33d6eb9619ffc729a226e8a", func := "bellows/bellowslaw06.MsgQueues", spec := "msgQueues", named := ["bellows/msg.mayHave"], apart := false, laid := [("bellows/msg.mayHave", laid_bellows_msg_mayHave)], narrowed := true }
def MsgQueuesUptoSaid : Prop := msgQueuesUptoRow.holds Tryd.pinned (OpenSpec.upto msgQueuesSpec)

/-- 'bellowslaw06.MsgFull', WHERE WHAT IT READS IS OF BULK AT MOST 1048576: true; the input reads as it did. -/
def msgFullUptoRow : OpenClaim := { program := "ytkbogampnjamiaadoor", sum := "e301bfdff327692e284fab7d41692d03e7c8f32ba33d6eb9619ffc729a226e8a", func := "bellows/bellowslaw06.MsgFull", spec := "msgFull", named := ["bellows/msg.mayHave"], apart := false, laid := [("bellows/msg.mayHave", laid_bellows_msg_mayHave)], narrowed := true }
def MsgFullUptoSaid : Prop := msgFullUptoRow.holds Tryd.pinned (OpenSpec.upto msgFullSpec)

/-- 'bellowslaw06.MsgNone', WHERE WHAT IT READS IS OF BULK AT MOST 1048576: true; the input reads as it did. -/
def msgNoneUptoRow : OpenClaim := { program := "ytkbogampnjamiaadoor", sum := "e301bfdff327692e284fab7d41692d03e7c8f32ba33d6eb9619ffc729a226e8a", func := "bellows/bellowslaw06.MsgNone", spec := "msgNone", named := ["bellows/msg.mayHave"], apart := false, laid := [("bellows/msg.mayHave", laid_bellows_msg_mayHave)], narrowed := true }
def MsgNoneUptoSaid : Prop := msgNoneUptoRow.holds Tryd.pinned (OpenSpec.upto msgNoneSpec)

/-- 'bellowslaw06.MsgKinds', WHERE WHAT IT READS IS OF BULK AT MOST 1048576: true; the input reads as it did. -/
def msgKindsUptoRow : OpenClaim := { program := "ytkbogampnjamiaadoor", sum := "e301bfdff327692e284fab7d41692d03e7c8f32ba33d6eb9619ffc729a226e8a", func := "bellows/bellowslaw06.MsgKinds", spec := "msgKinds", named := ["bellows/msg.mayHave"], apart := false, laid := [("bellows/msg.mayHave", laid_bellows_msg_mayHave)], narrowed := true }
def MsgKindsUptoSaid : Prop := msgKindsUptoRow.holds Tryd.pinned (OpenSpec.upto msgKindsSpec)

end Rows
end Go.Proofs.YtkbogampnjamiaaDoor
