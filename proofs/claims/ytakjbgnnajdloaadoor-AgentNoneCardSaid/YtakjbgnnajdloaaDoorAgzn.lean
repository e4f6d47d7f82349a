/- A statement of layer 8, with the tables of what a kind of messages may have, and of what messages make of slots, tied to the program's text: for every argument. No condition. -/
import Derived.Test.YtakjbgnnajdloaaDoorCards
import Derived.Test.YtakjbgnnajdloaaDoorTie
import Derived.Test.YtakjbgnnajdloaaDoorLaid
import Derived.Test.YtakjbgnnajdloaaDoorArgs
import Derived.Test.YtakjbgnnajdloaaDoorAgz
import Derived.Test.YtakjbgnnajdloaaDoorAgn
import Derived.LaidMore
import Derived.SevenTiedAt
namespace Go.Proofs.YtakjbgnnajdloaaDoor
open Go.ChangeShapes Go.WideShapes Go.ChangeAt Go.RowKit
set_option linter.unusedVariables false

theorem agentNone_spec {H : Type} : ∀ ds : List (DataW H), ds.length = Tryd.f6.params.toList.length → Rows.agentNoneSpec.fn H ds = { results := [.lit (.bool true)], args := ds } := by
  intro ds h
  rw [show Tryd.f6.params.toList.length = 1 by kernel_rfl] at h
  match ds, h with
  | [d1], _ => rfl

set_option maxRecDepth 100000 in
theorem agentNone_call {H : Type} {enc : TypeId × Value → H} : ∀ (W : World) (base : Nat) (args : Array Value) (ds : List (DataW H)) (ps : List MemPlace),
      (∀ (j : Nat) t v, Tryd.f6.params[j]? = some t → args[j]? = some v → Value.okWide Tryd.checked.prog W .any base t v) →
      DataW.TrodAll enc Tryd.checked.prog W 0 (fun _ => true) true Tryd.f6.params.toList args.toList ds ps → (∀ x ∈ ps, x.block < W.heap.size) → W.noneFrozen ps →
      (DataW.weightsEach Tryd.checked.prog Tryd.f6.params.toList ds).all (· ≤ reachBytes) = true → laidMetH Tryd.checked.prog laidM W →
      Calls Tryd.checked.prog 6 args W fun e W' => e = .returned (.bool true) ∧ Below W.heap.size W W' := by
  intro W base args ds ps hval0 hA0 hlt hfz hsz hL
  have ht := tabs_of_laid hL
  have hval : ∀ (j : Nat) t v, Tryd.f6.params[j]? = some t → args[j]? = some v → Value.okWide Tryd.prog W .any base t v := hval0
  have hA : DataW.TrodAll enc Tryd.prog W 0 (fun _ => true) true Tryd.f6.params.toList args.toList ds ps := hA0
  rw [Tryd.params6] at hA hval
  obtain ⟨v0, vs0, d0, ds0, p0, q0, hargs, rfl, rfl, h0, r0⟩ := trodAll_cons hA
  obtain ⟨rfl, rfl, rfl⟩ := trodAll_nil r0
  obtain rfl : args = #[v0] := by cases args; simp_all
  clear hA0 hval0 hsz hfz hlt
  obtain ⟨cs0, rfl, hk0⟩ := open_row (by rw [Tryd.underlying37]) kinds_gst (hval 0 37 _ rfl rfl) h0
  obtain ⟨x, rfl⟩ := gstep_cells hk0
  exact (agnone_any x W ht).mono fun e w' h => to_below h

set_option maxRecDepth 100000 in
theorem agentNone_said : Rows.AgentNoneSaid :=
  OpenClaim.holds_of_wide 6 Tryd.f6 rfl rfl rfl rfl rfl rfl rfl ⟨rfl, rfl, rfl, rfl, rfl⟩ rfl rfl rfl rfl rfl (by kernel_rfl) Tryd.func6 (by kernel_rfl)
    (of_decide_eq_true (by kernel_rfl)) (by unfold Func.isWrapper; first | (rw [if_pos (by decide +kernel)]; kernel_rfl) | (rw [if_neg (by decide +kernel)]; exact ⟨rfl, rfl⟩))
    (fun os started H enc _ => law_ret_laid (C := Tryd.checked) (tb := 4) (laid := laidM) own started (by kernel_rfl) Tryd.func6
      (ChangeSpec.witness_shaped (enc := enc) (C := Tryd.checked) (os := os) (X := fun w _ => laidMetH Tryd.prog laidM w) false (World.doorLaid Tryd.prog 200 os) #[.agg #[.int .i64 0, .int .i64 0, .int .i64 0, .int .u64 0, .int .i64 0, .int .i64 0, .bool false, .bool false, .int .u64 0, .int .u64 0, .int .u64 0, .int .u64 0, .int .u64 0, .int .u64 0, .int .u64 0, .int .u64 0]] 8 rfl (World.shaped_of_RefB (by kernel_rfl) (by kernel_rfl)) (by kernel_rfl) (by kernel_rfl) (by kernel_rfl) (door_met os _))
      rfl agentNone_spec laidOut (by kernel_rfl) (by kernel_rfl) Tryd.underlying4 agentNone_call)

theorem agentNone_plain (f : FuncId) (fn : Func) (hf : Tryd.pinned.checked.prog.funcNamed "bellows/bellowslaw08.AgentNone" = some f) (hfn : Tryd.pinned.checked.prog.funcs[f]? = some fn) :
    false = Tryd.pinned.checked.prog.looks [] ∧ ∀ (j : Nat) t, fn.params[j]? = some t → Tryd.pinned.checked.prog.wantsStandIn t = false := by
  obtain rfl : f = 6 := Option.some.inj ((show Tryd.prog.funcNamed "bellows/bellowslaw08.AgentNone" = some 6 by kernel_rfl).symm.trans hf) |>.symm
  obtain rfl : fn = Tryd.f6 := (Option.some.inj (Tryd.func6.symm.trans hfn)).symm
  refine ⟨by kernel_rfl, fun j t ht => ?_⟩
  rw [Tryd.params6] at ht
  have hm : t = 37 := by simpa using Array.mem_of_getElem? ht
  rcases hm with rfl
  all_goals exact (show Tryd.prog.wantsStandIn _ = false by kernel_rfl)
theorem agentNone_card : Rows.AgentNoneCardSaid :=
  Claim7.holds_tied_plain_at .later [] _ _ _ _ agentNone_said (fun _ h => by cases h) (by kernel_rfl) (fun _ h => by cases h) agentNone_row_tie rfl ⟨rfl, rfl⟩ (by kernel_rfl) rfl agentNone_plain (by kernel_rfl)
#print axioms agentNone_card
end Go.Proofs.YtakjbgnnajdloaaDoor
