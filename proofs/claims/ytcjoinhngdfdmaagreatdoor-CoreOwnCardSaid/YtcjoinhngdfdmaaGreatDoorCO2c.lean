/- What a statement of layer 13 needs further, and for the last file the statement itself: for every argument. No condition. -/
import Derived.Test.YtcjoinhngdfdmaaGreatDoorCO2b
import Derived.Below
import Derived.BigQuiet
import Derived.ChangeAlike
import Derived.ChangeArms
import Derived.ChangeKeysEq
import Derived.Deep.Cut
import Derived.Deep.CutBlock
import Derived.Deep.CutRange
import Derived.Deep.DeepCutAuto
import Derived.Deep.MidRow
import Derived.Deep.Quiet
import Derived.Deep.QuietTactic
import Derived.Deep.RegionHeld3
import Derived.Deep.RegionLaw
import Derived.Deep.RegionWith
import Derived.DeepKeys
import Derived.Defers
import Derived.Handed
import Derived.IntWalk
import Derived.LaidHandle
import Derived.LaidMore
import Derived.Laws.Bits64b
import Derived.Laws.BitsAllLaws
import Derived.Laws.Entries
import Derived.Laws.LoneSync
import Derived.Laws.NewBlocks
import Derived.Laws.Pointers
import Derived.Laws.StructEq
import Derived.Lib.Hide
import Derived.Lib.SliceRun
import Derived.Maps.OwnOps
import Derived.OpenShut
import Derived.OwnWalk
import Derived.ProofKit
import Derived.RegionCalls
import Derived.RegionTactic
import Derived.SevenTiedAt
import Derived.StillTail
import Derived.StillTailTactics
import Derived.Stop.Joined
import Derived.Tactics
import Derived.Tactics2
import Derived.Test.YtcjoinhngdfdmaaGreatDoorCards
import Derived.Test.YtcjoinhngdfdmaaGreatDoorChecked
import Derived.Test.YtcjoinhngdfdmaaGreatDoorTie
import Derived.WalkKit
import Derived.WideShapes
namespace Go.Proofs.YtcjoinhngdfdmaaGreatDoor
open Go.ChangeShapes Go.WideShapes Go.ChangeAt Go.RowKit
set_option linter.unusedVariables false

theorem own : ownKnob Tryz.prog.godebug = none := by kernel_rfl
theorem laidOut : laidOutB Tryz.prog = true := by kernel_rfl

/-- What a list of two variables gives: their blocks. -/
theorem block_of_laid2 {P : Program} {W : World} {name name' : String} {d d' : DataW Unit} {g g' : Nat} {t t' : TypeId} {n n' : Nat}
    (hg : P.globalNamed name = some g) (hty : (P.globals[g]?).map (·.type) = some t) (hp : plainTy P n t = true)
    (hg' : P.globalNamed name' = some g') (hty' : (P.globals[g']?).map (·.type) = some t') (hp' : plainTy P n' t' = true)
    (hpl : ([(name, d), (name', d')].all fun x => x.2.handleName?.isNone) = true) (h : laidMetH P [(name, d), (name', d')] W) :
    (∃ ty f, W.heap[g]? = some (.cells (flat d).toArray ty f)) ∧ ∃ ty f, W.heap[g']? = some (.cells (flat d').toArray ty f) := by
  rw [MakeChecks.laidMetH_plain _ _ _ hpl] at h
  obtain ⟨ps, ⟨g1, t1, cs, fuel, p, q, hg1, ht1, hvar, hd, ⟨g2, t2, cs2, fuel2, p2, q2, hg2, ht2, hvar2, hd2, _, _⟩, _⟩, _⟩ := h
  obtain rfl := Option.some.inj (hg.symm.trans hg1)
  obtain rfl := Option.some.inj (hty.symm.trans ht1)
  obtain rfl := Option.some.inj (hg'.symm.trans hg2)
  obtain rfl := Option.some.inj (hty'.symm.trans ht2)
  have e := trod_flat n t hp _ _ _ hd
  have e2 := trod_flat n' t' hp' _ _ _ hd2
  refine ⟨?_, ?_⟩
  · unfold World.var? at hvar
    rw [hg] at hvar
    simp only [Option.bind_some] at hvar
    split at hvar
    · rename_i c ty f hh
      injection hvar with hvar
      subst hvar
      refine ⟨ty, f, ?_⟩
      rw [hh, ← show c.toList = flat d from e]
    · cases hvar
  · unfold World.var? at hvar2
    rw [hg'] at hvar2
    simp only [Option.bind_some] at hvar2
    split at hvar2
    · rename_i c ty f hh
      injection hvar2 with hvar2
      subst hvar2
      refine ⟨ty, f, ?_⟩
      rw [hh, ← show c.toList = flat d' from e2]
    · cases hvar2
def laidM : List (String × DataW Unit) := [("bellows/msg.mayHave", Rows.laid_bellows_msg_mayHave), ("bellows/agent.becomes", Rows.laid_bellows_agent_becomes)]
theorem gMay : Tryz.prog.globalNamed "bellows/msg.mayHave" = some 1 := by kernel_rfl
theorem tMay : (Tryz.prog.globals[1]?).map (·.type) = some 240 := by kernel_rfl
theorem gBec : Tryz.prog.globalNamed "bellows/agent.becomes" = some 0 := by kernel_rfl
theorem tBec : (Tryz.prog.globals[0]?).map (·.type) = some 212 := by kernel_rfl
theorem flatMay : flat (H := Unit) Rows.laid_bellows_msg_mayHave = tabL := by rfl
theorem flatBec : flat (H := Unit) Rows.laid_bellows_agent_becomes = tbL := by rfl
theorem tabs_of_laid {W : World} (h : laidMetH Tryz.prog laidM W) : Tabs W := by
  have := block_of_laid2 (n := 9) (n' := 9) gMay tMay (by kernel_rfl) gBec tBec (by kernel_rfl) (by kernel_rfl) h
  rw [flatMay, flatBec] at this
  exact this
set_option maxRecDepth 100000 in
theorem door_met (os : Os) (args : Array Value) : laidMetH Tryz.prog laidM ((World.doorLaid Tryz.prog 300 os).forCall (fun _ _ => 0) ⟨#[], args, []⟩).memory :=
  laidMetH_of_parts3 (fuel := 8) (laidMet_of_run' 8 (by kernel_rfl) (by kernel_rfl)) (by kernel_rfl) (by kernel_rfl)
theorem bounds_u8 {n : Int} (h : (Lit.int .u8 n).wf = true) : 0 ≤ n ∧ n < 256 := by
  simp [Lit.wf, IntKind.min, IntKind.max, IntKind.signed, IntKind.bits] at h
  omega
theorem to_below {e : Ending} {W w' : World} (h : e = .returned (.bool true) ∧ Chg [] W w') : e = .returned (.bool true) ∧ Below W.heap.size W w' := ⟨h.1, h.2.below (Nat.le_refl _) (by simp)⟩

theorem coreOwn_spec {H : Type} : ∀ ds : List (DataW H), ds.length = Tryz.f3.params.toList.length → Rows.coreOwnSpec.fn H ds = { results := [.lit (.bool true)], args := ds } := by
  intro ds h
  rw [show Tryz.f3.params.toList.length = 2 by kernel_rfl] at h
  match ds, h with
  | [d1, d2], _ => rfl

set_option maxRecDepth 100000 in
theorem coreOwn_call {H : Type} {enc : TypeId × Value → H} : ∀ (W : World) (base : Nat) (args : Array Value) (ds : List (DataW H)) (ps : List MemPlace),
      (∀ (j : Nat) t v, Tryz.f3.params[j]? = some t → args[j]? = some v → Value.okWide Tryz.checked.prog W .any base t v) →
      DataW.TrodAll enc Tryz.checked.prog W 0 (fun _ => true) true Tryz.f3.params.toList args.toList ds ps → (∀ x ∈ ps, x.block < W.heap.size) → W.noneFrozen ps →
      (DataW.weightsEach Tryz.checked.prog Tryz.f3.params.toList ds).all (· ≤ reachBytes) = true → laidMetH Tryz.checked.prog laidM W →
      Calls Tryz.checked.prog 3 args W fun e W' => e = .returned (.bool true) ∧ Below W.heap.size W W' := by
  intro W base args ds ps hval0 hA0 hlt hfz hsz hL
  have ht := tabs_of_laid hL
  have hval : ∀ (j : Nat) t v, Tryz.f3.params[j]? = some t → args[j]? = some v → Value.okWide Tryz.prog W .any base t v := hval0
  have hA : DataW.TrodAll enc Tryz.prog W 0 (fun _ => true) true Tryz.f3.params.toList args.toList ds ps := hA0
  rw [Tryz.params3] at hA hval
  obtain ⟨v0, vs0, d0, ds0, p0, q0, hargs, rfl, rfl, h0, r0⟩ := trodAll_cons hA
  obtain ⟨v1, vs1, d1, ds1, p1, q1, rfl, rfl, rfl, h1, r1⟩ := trodAll_cons r0
  obtain ⟨rfl, rfl, rfl⟩ := trodAll_nil r1
  obtain rfl : args = #[v0, v1] := by cases args; simp_all
  clear hA0 hval0 hsz hfz hlt
  obtain ⟨A0, n0, c0, xs, rfl, _, _, hs0, hx0⟩ := (open_sl (kd := .slice [.int .u8]) Tryz.underlying22 (by kernel_rfl : kinds Tryz.prog 9 22 = some [.slice [.int .u8]]) (hval 0 22 _ rfl rfl) h0).ints
  obtain ⟨A1, n1, c1, ys, rfl, _, _, hs1, hx1⟩ := (open_sl (kd := .slice [.int .u8]) Tryz.underlying22 (by kernel_rfl : kinds Tryz.prog 9 22 = some [.slice [.int .u8]]) (hval 1 22 _ rfl rfl) h1).ints
  exact (cown_any W ht hs0 (by simpa using hs0.1) (fun x hx => by have := bounds_u8 (hx0 x hx); omega) hs1 (by simpa using hs1.1) (fun x hx => by have := bounds_u8 (hx1 x hx); omega)).mono fun e w' h => to_below h

set_option maxRecDepth 100000 in
theorem coreOwn_said : Rows.CoreOwnSaid :=
  OpenClaim.holds_of_wide 3 Tryz.f3 rfl rfl rfl rfl rfl rfl rfl ⟨rfl, rfl, rfl, rfl, rfl⟩ rfl rfl rfl rfl rfl (by kernel_rfl) Tryz.func3 (by kernel_rfl)
    (of_decide_eq_true (by kernel_rfl)) (by unfold Func.isWrapper; first | (rw [if_pos (by decide +kernel)]; kernel_rfl) | (rw [if_neg (by decide +kernel)]; exact ⟨rfl, rfl⟩))
    (fun os started H enc _ => law_ret_laid (C := Tryz.checked) (tb := 4) (laid := laidM) own started (by kernel_rfl) Tryz.func3
      (ChangeSpec.witness_shaped (enc := enc) (C := Tryz.checked) (os := os) (X := fun w _ => laidMetH Tryz.prog laidM w) false (World.doorLaid Tryz.prog 300 os) #[.slice none 0 0, .slice none 0 0] 8 rfl (World.shaped_of_RefB (by kernel_rfl) (by kernel_rfl)) (by kernel_rfl) (by kernel_rfl) (by kernel_rfl) (door_met os _))
      rfl coreOwn_spec laidOut (by kernel_rfl) (by kernel_rfl) Tryz.underlying4 coreOwn_call)

theorem coreOwn_plain (f : FuncId) (fn : Func) (hf : Tryz.pinned.checked.prog.funcNamed "bellows/bellowslaw13.CoreOwn" = some f) (hfn : Tryz.pinned.checked.prog.funcs[f]? = some fn) :
    false = Tryz.pinned.checked.prog.looks [] ∧ ∀ (j : Nat) t, fn.params[j]? = some t → Tryz.pinned.checked.prog.wantsStandIn t = false := by
  obtain rfl : f = 3 := Option.some.inj ((show Tryz.prog.funcNamed "bellows/bellowslaw13.CoreOwn" = some 3 by kernel_rfl).symm.trans hf) |>.symm
  obtain rfl : fn = Tryz.f3 := (Option.some.inj (Tryz.func3.symm.trans hfn)).symm
  refine ⟨by kernel_rfl, fun j t ht => ?_⟩
  rw [Tryz.params3] at ht
  have hm : t = 22 := by simpa using Array.mem_of_getElem? ht
  rcases hm with rfl
  all_goals exact (show Tryz.prog.wantsStandIn _ = false by kernel_rfl)
theorem coreOwn_card : Rows.CoreOwnCardSaid :=
  Claim7.holds_tied_plain_at .later [] _ _ _ _ coreOwn_said (fun _ h => by cases h) (by kernel_rfl) (fun _ h => by cases h) coreOwn_row_tie rfl ⟨rfl, rfl⟩ (by kernel_rfl) rfl coreOwn_plain (by kernel_rfl)
#print axioms coreOwn_card
end Go.Proofs.YtcjoinhngdfdmaaGreatDoor
