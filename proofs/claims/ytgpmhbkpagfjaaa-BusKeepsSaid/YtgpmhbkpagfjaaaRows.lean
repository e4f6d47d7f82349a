/-
  No cell of these rows narrows 'for every input' (looked for: loops, veiled, ifaces, maps, wideKeys, modest, calm, conditions, laid).
  DERIVED. THE GIVEN ROWS OF THIS SEAT. 4 by the template 'for every input the law returns true; each argument reads behind the call as it read before'; 0 by the template 'total and deterministic' (their statements: YtgpmhbkpagfjaaaTotals.lean).
  GIVEN WITH THE SEED: the statements are not yours to turn. If you find one false, say at which input.
  Laid BY PROGRAM, IN A SANDBOX (cutbox-rows.mjs): the forced cells as the released guide's own fill.sh prints them over the translation 0912e7d1995abb01… (all of the seat's roots in one cut). By AI agents, Wed Nov 11 2026. No macro, syntax, notation, axiom, sorry.
-/
import Derived.Test.YtgpmhbkpagfjaaaChecked
import GoSem.Claim
import GoSem.ClaimJoined
import GoSem.ClaimMapViews
import Derived.JoinedTies
import Derived.KernelRfl
namespace Go.Proofs.Ytgpmhbkpagfjaaa
/- THE CELL 'sum', in the pinned program and in every row, IS THE sha256 OF THE DUMP (.gsa) THAT YtgpmhbkpagfjaaaProg.lean LOADS. Nothing in Lean hashes anything: it is a label: what it is worth is what the hold of that sum in a sandbox is worth. -/
noncomputable def Try.pinned : Pinned := { name := "ytgpmhbkpagfjaaa", sum := "0912e7d1995abb013a3bccd851482ffd71f3f5235ba71a323c9f5c76f6c2ebc5", checked := Try.checked }
namespace Rows
def none {H : Type} : Left H := { results := [], args := [] }

/-- 'bellowslaw14.BusKeeps': WHATEVER THE INPUT: true; the input reads as it did. -/
def busKeepsSpec : ChangeSpec := { name := "busKeeps", fn := fun _ => fun
  | [d1, d2] => { results := [.lit (.bool true)], args := [d1, d2] }
  | _ => none }
def busKeepsRow : OpenClaim := { program := "ytgpmhbkpagfjaaa", sum := "0912e7d1995abb013a3bccd851482ffd71f3f5235ba71a323c9f5c76f6c2ebc5", func := "bellows/bellowslaw14.BusKeeps", spec := "busKeeps", unfollowed := true, recurses := true, plainKeys := false, apart := false }
def BusKeepsSaid : Prop := busKeepsRow.holds Try.pinned (OpenSpec.ofChange busKeepsSpec)

/-- ITS FALSE NEIGHBOUR: 'it returns false'. Refute it at one input. -/
def busKeepsWrong : ChangeSpec := { name := "busKeeps", fn := fun _ => fun
  | [d1, d2] => { results := [.lit (.bool false)], args := [d1, d2] }
  | _ => none }
def BusKeepsWrongFalsely : Prop := busKeepsRow.holds Try.pinned (OpenSpec.ofChange busKeepsWrong)

/-- 'bellowslaw14.BusNone': WHATEVER THE INPUT: true; the input reads as it did. -/
def busNoneSpec : ChangeSpec := { name := "busNone", fn := fun _ => fun
  | [d] => { results := [.lit (.bool true)], args := [d] }
  | _ => none }
def busNoneRow : OpenClaim := { program := "ytgpmhbkpagfjaaa", sum := "0912e7d1995abb013a3bccd851482ffd71f3f5235ba71a323c9f5c76f6c2ebc5", func := "bellows/bellowslaw14.BusNone", spec := "busNone", unfollowed := true, recurses := true, plainKeys := false, apart := false }
def BusNoneSaid : Prop := busNoneRow.holds Try.pinned (OpenSpec.ofChange busNoneSpec)

/-- ITS FALSE NEIGHBOUR: 'it returns false'. Refute it at one input. -/
def busNoneWrong : ChangeSpec := { name := "busNone", fn := fun _ => fun
  | [d] => { results := [.lit (.bool false)], args := [d] }
  | _ => none }
def BusNoneWrongFalsely : Prop := busNoneRow.holds Try.pinned (OpenSpec.ofChange busNoneWrong)

/-- 'bellowslaw14.BusFences': WHATEVER THE INPUT: true; the input reads as it did. -/
def busFencesSpec : ChangeSpec := { name := "busFences", fn := fun _ => fun
  | [d1, d2] => { results := [.lit (.bool true)], args := [d1, d2] }
  | _ => none }
def busFencesRow : OpenClaim := { program := "ytgpmhbkpagfjaaa", sum := "0912e7d1995abb013a3bccd851482ffd71f3f5235ba71a323c9f5c76f6c2ebc5", func := "bellows/bellowslaw14.BusFences", spec := "busFences", unfollowed := true, recurses := true, plainKeys := false, apart := false }
def BusFencesSaid : Prop := busFencesRow.holds Try.pinned (OpenSpec.ofChange busFencesSpec)

/-- ITS FALSE NEIGHBOUR: 'it returns false'. Refute it at one input. -/
def busFencesWrong : ChangeSpec := { name := "busFences", fn := fun _ => fun
  | [d1, d2] => { results := [.lit (.bool false)], args := [d1, d2] }
  | _ => none }
def BusFencesWrongFalsely : Prop := busFencesRow.holds Try.pinned (OpenSpec.ofChange busFencesWrong)

/-- 'bellowslaw14.BusOrder': WHATEVER THE INPUT: true; the input reads as it did. -/
def busOrderSpec : ChangeSpec := { name := "busOrder", fn := fun _ => fun
  | [d] => { results := [.lit (.bool true)], args := [d] }
  | _ => none }
def busOrderRow : OpenClaim := { program := "ytgpmhbkpagfjaaa", sum := "0912e7d1995abb013a3bccd851482ffd71f3f5235ba71a323c9f5c76f6c2ebc5", func := "bellows/bellowslaw14.BusOrder", spec := "busOrder", unfollowed := true, recurses := true, plainKeys := false, apart := false }
def BusOrderSaid : Prop := busOrderRow.holds Try.pinned (OpenSpec.ofChange busOrderSpec)

/-- ITS FALSE NEIGHBOUR: 'it returns false'. Refute it at one input. -/
def busOrderWrong : ChangeSpec := { name := "busOrder", fn := fun _ => fun
  | [d] => { results := [.lit (.bool false)], args := [d] }
  | _ => none }
def BusOrderWrongFalsely : Prop := busOrderRow.holds Try.pinned (OpenSpec.ofChange busOrderWrong)

/- THE SECOND FORM. 'bulk': how many values and letters a reading holds, each counted each time it is reached (what is shared counts as often as it is met; a slice's spare places count too). A statement '..UptoSaid' is the law's where the arguments, and the package variables that the reading takes, are together of bulk at most 1048576: NARROWER than '..Said'. Prove '..Said' where nothing that the law and all that it calls make is longer than what came in: it says more and counts as full. Else prove '..UptoSaid'. A law counts once. -/
mutual
def uptoBulk {H : Type} : DataW H → Nat
  | .lit (.string bytes) => bytes.length + 1
  | .lit _ => 1
  | .nil => 1
  | .ptr d => uptoBulk d + 1
  | .slice elems spare => uptoBulkAll elems + uptoBulkAll spare + 1
  | .agg parts => uptoBulkAll parts + 1
  | .iface _ d => uptoBulk d + 1
  | .map entries => uptoBulkEntries entries + 1
  | .held _ => 1
def uptoBulkAll {H : Type} : List (DataW H) → Nat
  | [] => 0
  | d :: r => uptoBulk d + uptoBulkAll r
def uptoBulkEntries {H : Type} : List (Lit × DataW H) → Nat
  | [] => 0
  | x :: r => uptoBulkEntry x + uptoBulkEntries r
def uptoBulkEntry {H : Type} : Lit × DataW H → Nat
  | (.string bytes, d) => bytes.length + uptoBulk d + 1
  | (_, d) => uptoBulk d + 1
 end
def uptoSmall : (H : Type) → List (DataW H) → Bool := fun _ ds => decide (uptoBulkAll ds ≤ 1048576)
def OpenSpec.upto (s : _root_.Go.ChangeSpec) : _root_.Go.OpenSpec := { _root_.Go.OpenSpec.ofChange s with cond := some uptoSmall }

/-- 'bellowslaw14.BusKeeps', WHERE WHAT IT READS IS OF BULK AT MOST 1048576: true; the input reads as it did. -/
def busKeepsUptoRow : OpenClaim := { program := "ytgpmhbkpagfjaaa", sum := "0912e7d1995abb013a3bccd851482ffd71f3f5235ba71a323c9f5c76f6c2ebc5", func := "bellows/bellowslaw14.BusKeeps", spec := "busKeeps", unfollowed := true, recurses := true, plainKeys := false, apart := false, narrowed := true }
def BusKeepsUptoSaid : Prop := busKeepsUptoRow.holds Try.pinned (OpenSpec.upto busKeepsSpec)

/-- 'bellowslaw14.BusNone', WHERE WHAT IT READS IS OF BULK AT MOST 1048576: true; the input reads as it did. -/
def busNoneUptoRow : OpenClaim := { program := "ytgpmhbkpagfjaaa", sum := "0912e7d1995abb013a3bccd851482ffd71f3f5235ba71a323c9f5c76f6c2ebc5", func := "bellows/bellowslaw14.BusNone", spec := "busNone", unfollowed := true, recurses := true, plainKeys := false, apart := false, narrowed := true }
def BusNoneUptoSaid : Prop := busNoneUptoRow.holds Try.pinned (OpenSpec.upto busNoneSpec)

/-- 'bellowslaw14.BusFences', WHERE WHAT IT READS IS OF BULK AT MOST 1048576: true; the input reads as it did. -/
def busFencesUptoRow : OpenClaim := { program := "ytgpmhbkpagfjaaa", sum := "0912e7d1995abb013a3bccd851482ffd71f3f5235ba71a323c9f5c76f6c2ebc5", func := "bellows/bellowslaw14.BusFences", spec := "busFences", unfollowed := true, recurses := true, plainKeys := false, apart := false, narrowed := true }
def BusFencesUptoSaid : Prop := busFencesUptoRow.holds Try.pinned (OpenSpec.upto busFencesSpec)

/-- 'bellowslaw14.BusOrder', WHERE WHAT IT READS IS OF BULK AT MOST 1048576: true; the input reads as it did. -/
def busOrderUptoRow : OpenClaim := { program := "ytgpmhbkpagfjaaa", sum := "0912e7d1995abb013a3bccd851482ffd71f3f5235ba71a323c9f5c76f6c2ebc5", func := "bellows/bellowslaw14.BusOrder", spec := "busOrder", unfollowed := true, recurses := true, plainKeys := false, apart := false, narrowed := true }
def BusOrderUptoSaid : Prop := busOrderUptoRow.holds Try.pinned (OpenSpec.upto busOrderSpec)

end Rows
end Go.Proofs.Ytgpmhbkpagfjaaa
