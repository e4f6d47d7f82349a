/-
  No cell of these rows narrows 'for every input' (looked for: loops, veiled, ifaces, maps, wideKeys, modest, calm, conditions, laid).
  DERIVED. THE GIVEN ROWS OF THIS SEAT. 5 by the template 'for every input the law returns true; each argument reads behind the call as it read before'; 0 by the template 'total and deterministic' (their statements: YtdfejijiocfjhaaTotals.lean).
  GIVEN WITH THE SEED: the statements are not yours to turn. If you find one false, say at which input.
  Laid BY PROGRAM, IN A SANDBOX (cutbox-rows.mjs): the forced cells as the released guide's own fill.sh prints them over the translation c3b88ddd79a4f912… (all of the seat's roots in one cut). By AI agents, Wed Nov 11 2026. No macro, syntax, notation, axiom, sorry.
-/
import Derived.Test.YtdfejijiocfjhaaChecked
import GoSem.Claim
import GoSem.ClaimJoined
import GoSem.ClaimMapViews
import Derived.JoinedTies
import Derived.KernelRfl
namespace Go.Proofs.Ytdfejijiocfjhaa
/- THE CELL 'sum', in the pinned program and in every row, IS THE sha256 OF THE DUMP (.gsa) THAT YtdfejijiocfjhaaProg.lean LOADS. Nothing in Lean hashes anything: it is a label: what it is worth is what the hold of that sum in a sandbox is worth. -/
noncomputable def Try.pinned : Pinned := { name := "ytdfejijiocfjhaa", sum := "c3b88ddd79a4f91274024cf32d5d49f2dd82529562cd20135354baa124b14e54", checked := Try.checked }
namespace Rows
def none {H : Type} : Left H := { results := [], args := [] }

/-- 'bellowslaw05.ArrayPlays': WHATEVER THE INPUT: true; the input reads as it did. -/
def arrayPlaysSpec : ChangeSpec := { name := "arrayPlays", fn := fun _ => fun
  | [d1, d2, d3] => { results := [.lit (.bool true)], args := [d1, d2, d3] }
  | _ => none }
def arrayPlaysRow : OpenClaim := { program := "ytdfejijiocfjhaa", sum := "c3b88ddd79a4f91274024cf32d5d49f2dd82529562cd20135354baa124b14e54", func := "bellows/bellowslaw05.ArrayPlays", spec := "arrayPlays", apart := false }
def ArrayPlaysSaid : Prop := arrayPlaysRow.holds Try.pinned (OpenSpec.ofChange arrayPlaysSpec)

/-- ITS FALSE NEIGHBOUR: 'it returns false'. Refute it at one input. -/
def arrayPlaysWrong : ChangeSpec := { name := "arrayPlays", fn := fun _ => fun
  | [d1, d2, d3] => { results := [.lit (.bool false)], args := [d1, d2, d3] }
  | _ => none }
def ArrayPlaysWrongFalsely : Prop := arrayPlaysRow.holds Try.pinned (OpenSpec.ofChange arrayPlaysWrong)

/-- 'bellowslaw05.ArrayOnce': WHATEVER THE INPUT: true; the input reads as it did. -/
def arrayOnceSpec : ChangeSpec := { name := "arrayOnce", fn := fun _ => fun
  | [d1, d2, d3] => { results := [.lit (.bool true)], args := [d1, d2, d3] }
  | _ => none }
def arrayOnceRow : OpenClaim := { program := "ytdfejijiocfjhaa", sum := "c3b88ddd79a4f91274024cf32d5d49f2dd82529562cd20135354baa124b14e54", func := "bellows/bellowslaw05.ArrayOnce", spec := "arrayOnce", apart := false }
def ArrayOnceSaid : Prop := arrayOnceRow.holds Try.pinned (OpenSpec.ofChange arrayOnceSpec)

/-- ITS FALSE NEIGHBOUR: 'it returns false'. Refute it at one input. -/
def arrayOnceWrong : ChangeSpec := { name := "arrayOnce", fn := fun _ => fun
  | [d1, d2, d3] => { results := [.lit (.bool false)], args := [d1, d2, d3] }
  | _ => none }
def ArrayOnceWrongFalsely : Prop := arrayOnceRow.holds Try.pinned (OpenSpec.ofChange arrayOnceWrong)

/-- 'bellowslaw05.ArrayNone': WHATEVER THE INPUT: true; the input reads as it did. -/
def arrayNoneSpec : ChangeSpec := { name := "arrayNone", fn := fun _ => fun
  | [d] => { results := [.lit (.bool true)], args := [d] }
  | _ => none }
def arrayNoneRow : OpenClaim := { program := "ytdfejijiocfjhaa", sum := "c3b88ddd79a4f91274024cf32d5d49f2dd82529562cd20135354baa124b14e54", func := "bellows/bellowslaw05.ArrayNone", spec := "arrayNone", apart := false }
def ArrayNoneSaid : Prop := arrayNoneRow.holds Try.pinned (OpenSpec.ofChange arrayNoneSpec)

/-- ITS FALSE NEIGHBOUR: 'it returns false'. Refute it at one input. -/
def arrayNoneWrong : ChangeSpec := { name := "arrayNone", fn := fun _ => fun
  | [d] => { results := [.lit (.bool false)], args := [d] }
  | _ => none }
def ArrayNoneWrongFalsely : Prop := arrayNoneRow.holds Try.pinned (OpenSpec.ofChange arrayNoneWrong)

/-- 'bellowslaw05.ArrayLast': WHATEVER THE INPUT: true; the input reads as it did. -/
def arrayLastSpec : ChangeSpec := { name := "arrayLast", fn := fun _ => fun
  | [d1, d2] => { results := [.lit (.bool true)], args := [d1, d2] }
  | _ => none }
def arrayLastRow : OpenClaim := { program := "ytdfejijiocfjhaa", sum := "c3b88ddd79a4f91274024cf32d5d49f2dd82529562cd20135354baa124b14e54", func := "bellows/bellowslaw05.ArrayLast", spec := "arrayLast", apart := false }
def ArrayLastSaid : Prop := arrayLastRow.holds Try.pinned (OpenSpec.ofChange arrayLastSpec)

/-- ITS FALSE NEIGHBOUR: 'it returns false'. Refute it at one input. -/
def arrayLastWrong : ChangeSpec := { name := "arrayLast", fn := fun _ => fun
  | [d1, d2] => { results := [.lit (.bool false)], args := [d1, d2] }
  | _ => none }
def ArrayLastWrongFalsely : Prop := arrayLastRow.holds Try.pinned (OpenSpec.ofChange arrayLastWrong)

/-- 'bellowslaw05.ArrayKeeps': WHATEVER THE INPUT: true; the input reads as it did. -/
def arrayKeepsSpec : ChangeSpec := { name := "arrayKeeps", fn := fun _ => fun
  | [d1, d2] => { results := [.lit (.bool true)], args := [d1, d2] }
  | _ => none }
def arrayKeepsRow : OpenClaim := { program := "ytdfejijiocfjhaa", sum := "c3b88ddd79a4f91274024cf32d5d49f2dd82529562cd20135354baa124b14e54", func := "bellows/bellowslaw05.ArrayKeeps", spec := "arrayKeeps", apart := false }
def ArrayKeepsSaid : Prop := arrayKeepsRow.holds Try.pinned (OpenSpec.ofChange arrayKeepsSpec)

/-- ITS FALSE NEIGHBOUR: 'it returns false'. Refute it at one input. -/
def arrayKeepsWrong : ChangeSpec := { name := "arrayKeeps", fn := fun _ => fun
  | [d1, d2] => { results := [.lit (.bool false)], args := [d1, d2] }
  | _ => none }
def ArrayKeepsWrongFalsely : Prop := arrayKeepsRow.holds Try.pinned (OpenSpec.ofChange arrayKeepsWrong)

/- THE SECOND FORM. 'bulk': how many values and letters a reading holds, each counted each time it is reached (what is shared counts as often as it is met; a slice's spare places count too). A statement '..UptoSaid' is the law's where the arguments, and the package variables that the reading takes, are together of bulk at most 1048576: NARROWER than '..Said'. Prove '..Said' where nothing that the law and all that it calls make is longer than what came in: it says more and counts as full. Else prove '..UptoSaid'. A law counts once. -/
mutual
def uptoBulk {H : Type} : DataW H → Nat
  | .lit (.string bytes) => bytes.length + 1
  | .lit _ => 1
  | .nil => 1
  | .ptr d => uptoBulk d + 1
  | .slice elems spare => uptoBulkAll elems + uptoBulkAll spare + 1
  | .agg parts => uptoBulkAll parts + 1
  | .iface _ d => uptoBulk d + 1
  | .map entries => uptoBulkEntries entries + 1
  | .held _ => 1
def uptoBulkAll {H : Type} : List (DataW H) → Nat
  | [] => 0
  | d :: r => uptoBulk d + uptoBulkAll r
def uptoBulkEntries {H : Type} : List (Lit × DataW H) → Nat
  | [] => 0
  | x :: r => uptoBulkEntry x + uptoBulkEntries r
def uptoBulkEntry {H : Type} : Lit × DataW H → Nat
  | (.string bytes, d) => bytes.length + uptoBulk d + 1
  | (_, d) => uptoBulk d + 1
 end
def uptoSmall : (H : Type) → List (DataW H) → Bool := fun _ ds => decide (uptoBulkAll ds ≤ 1048576)
def OpenSpec.upto (s : _root_.Go.ChangeSpec) : _root_.Go.OpenSpec := { _root_.Go.OpenSpec.ofChange s with cond := some uptoSmall }

/-- 'bellowslaw05.ArrayPlays', WHERE WHAT IT READS IS OF BULK AT MOST 1048576: true; the input reads as it did. -/
def arrayPlaysUptoRow : OpenClaim := { program := "ytdfejijiocfjhaa", sum := "c3b88ddd79a4f91274024cf32d5d49f2dd82529562cd20135354baa124b14e54", func := "bellows/bellowslaw05.ArrayPlays", spec := "arrayPlays", apart := false, narrowed := true }
def ArrayPlaysUptoSaid : Prop := arrayPlaysUptoRow.holds Try.pinned (OpenSpec.upto arrayPlaysSpec)

/-- 'bellowslaw05.ArrayOnce', WHERE WHAT IT READS IS OF BULK AT MOST 1048576: true; the input reads as it did. -/
def arrayOnceUptoRow : OpenClaim := { program := "ytdfejijiocfjhaa", sum := "c3b88ddd79a4f91274024cf32d5d49f2dd82529562cd20135354baa124b14e54", func := "bellows/bellowslaw05.ArrayOnce", spec := "arrayOnce", apart := false, narrowed := true }
def ArrayOnceUptoSaid : Prop := arrayOnceUptoRow.holds Try.pinned (OpenSpec.upto arrayOnceSpec)

/-- 'bellowslaw05.ArrayNone', WHERE WHAT IT READS IS OF BULK AT MOST 1048576: true; the input reads as it did. -/
def arrayNoneUptoRow : OpenClaim := { program := "ytdfejijiocfjhaa", sum := "c3b88ddd79a4f91274024cf32d5d49f2dd82529562cd20135354baa124b14e54", func := "bellows/bellowslaw05.ArrayNone", spec := "arrayNone", apart := false, narrowed := true }
def ArrayNoneUptoSaid : Prop := arrayNoneUptoRow.holds Try.pinned (OpenSpec.upto arrayNoneSpec)

/-- 'bellowslaw05.ArrayLast', WHERE WHAT IT READS IS OF BULK AT MOST 1048576: true; the input reads as it did. -/
def arrayLastUptoRow : OpenClaim := { program := "ytdfejijiocfjhaa", sum := "c3b88ddd79a4f91274024cf32d5d49f2dd82529562cd20135354baa124b14e54", func := "bellows/bellowslaw05.ArrayLast", spec := "arrayLast", apart := false, narrowed := true }
def ArrayLastUptoSaid : Prop := arrayLastUptoRow.holds Try.pinned (OpenSpec.upto arrayLastSpec)

/-- 'bellowslaw05.ArrayKeeps', WHERE WHAT IT READS IS OF BULK AT MOST 1048576: true; the input reads as it did. -/
def arrayKeepsUptoRow : OpenClaim := { program := "ytdfejijiocfjhaa", sum := "c3b88ddd79a4f91274024cf32d5d49f2dd82529562cd20135354baa124b14e54", func := "bellows/bellowslaw05.ArrayKeeps", spec := "arrayKeeps", apart := false, narrowed := true }
def ArrayKeepsUptoSaid : Prop := arrayKeepsUptoRow.holds Try.pinned (OpenSpec.upto arrayKeepsSpec)

end Rows
end Go.Proofs.Ytdfejijiocfjhaa
