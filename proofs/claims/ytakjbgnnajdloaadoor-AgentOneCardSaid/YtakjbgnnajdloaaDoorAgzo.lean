/- A statement of layer 8, with the tables of what a kind of messages may have, and of what messages make of slots, tied to the program's text: for every argument. No condition. -/
import Derived.Test.YtakjbgnnajdloaaDoorCards
import Derived.Test.YtakjbgnnajdloaaDoorTie
import Derived.Test.YtakjbgnnajdloaaDoorLaid
import Derived.Test.YtakjbgnnajdloaaDoorArgs
import Derived.Test.YtakjbgnnajdloaaDoorAgz
import Derived.Test.YtakjbgnnajdloaaDoorAgo
import Derived.LaidMore
import Derived.SevenTiedAt
namespace Go.Proofs.YtakjbgnnajdloaaDoor
open Go.ChangeShapes Go.WideShapes Go.ChangeAt Go.RowKit
set_option linter.unusedVariables false
theorem kinds_gsts : kinds Tryd.prog 9 22 = some [.slice kGSt] := by kernel_rfl

theorem agentOne_spec {H : Type} : ∀ ds : List (DataW H), ds.length = Tryd.f4.params.toList.length → Rows.agentOneSpec.fn H ds = { results := [.lit (.bool true)], args := ds } := by
  intro ds h
  rw [show Tryd.f4.params.toList.length = 3 by kernel_rfl] at h
  match ds, h with
  | [d1, d2, d3], _ => rfl

set_option maxRecDepth 100000 in
theorem agentOne_call {H : Type} {enc : TypeId × Value → H} : ∀ (W : World) (base : Nat) (args : Array Value) (ds : List (DataW H)) (ps : List MemPlace),
      (∀ (j : Nat) t v, Tryd.f4.params[j]? = some t → args[j]? = some v → Value.okWide Tryd.checked.prog W .any base t v) →
      DataW.TrodAll enc Tryd.checked.prog W 0 (fun _ => true) true Tryd.f4.params.toList args.toList ds ps → (∀ x ∈ ps, x.block < W.heap.size) → W.noneFrozen ps →
      (DataW.weightsEach Tryd.checked.prog Tryd.f4.params.toList ds).all (· ≤ reachBytes) = true → laidMetH Tryd.checked.prog laidM W →
      Calls Tryd.checked.prog 4 args W fun e W' => e = .returned (.bool true) ∧ Below W.heap.size W W' := by
  intro W base args ds ps hval0 hA0 hlt hfz hsz hL
  have ht := tabs_of_laid hL
  have hval : ∀ (j : Nat) t v, Tryd.f4.params[j]? = some t → args[j]? = some v → Value.okWide Tryd.prog W .any base t v := hval0
  have hA : DataW.TrodAll enc Tryd.prog W 0 (fun _ => true) true Tryd.f4.params.toList args.toList ds ps := hA0
  rw [Tryd.params4] at hA hval
  obtain ⟨v0, vs0, d0, ds0, p0, q0, hargs, rfl, rfl, h0, r0⟩ := trodAll_cons hA
  obtain ⟨v1, vs1, d1, ds1, p1, q1, rfl, rfl, rfl, h1, r1⟩ := trodAll_cons r0
  obtain ⟨v2, vs2, d2, ds2, p2, q2, rfl, rfl, rfl, h2, r2⟩ := trodAll_cons r1
  obtain ⟨rfl, rfl, rfl⟩ := trodAll_nil r2
  obtain rfl : args = #[v0, v1, v2] := by cases args; simp_all
  clear hA0 hval0 hsz hfz hlt
  obtain ⟨nv, rfl, rfl, rfl, nvw⟩ := open_int Tryd.underlying5 (hval 0 5 _ rfl rfl) h0
  have nvb := bounds_u8 nvw
  obtain ⟨wv, rfl, rfl, rfl, wvw⟩ := open_int Tryd.underlying5 (hval 1 5 _ rfl rfl) h1
  have wvb := bounds_u8 wvw
  obtain ⟨A, n, c, xs, rfl, hn, hc, hs, _, hk⟩ := (open_sl Tryd.underlying22 kinds_gsts (hval 2 22 _ rfl rfl) h2).rows
  exact (gone_any nv wv nvb.1 (by omega) wvb.1 (by omega) A n c xs W ht hs (Nat.le_trans hn hc) hk).mono fun e w' h => to_below h

set_option maxRecDepth 100000 in
theorem agentOne_said : Rows.AgentOneSaid :=
  OpenClaim.holds_of_wide 4 Tryd.f4 rfl rfl rfl rfl rfl rfl rfl ⟨rfl, rfl, rfl, rfl, rfl⟩ rfl rfl rfl rfl rfl (by kernel_rfl) Tryd.func4 (by kernel_rfl)
    (of_decide_eq_true (by kernel_rfl)) (by unfold Func.isWrapper; first | (rw [if_pos (by decide +kernel)]; kernel_rfl) | (rw [if_neg (by decide +kernel)]; exact ⟨rfl, rfl⟩))
    (fun os started H enc _ => law_ret_laid (C := Tryd.checked) (tb := 4) (laid := laidM) own started (by kernel_rfl) Tryd.func4
      (ChangeSpec.witness_shaped (enc := enc) (C := Tryd.checked) (os := os) (X := fun w _ => laidMetH Tryd.prog laidM w) false (World.doorLaid Tryd.prog 200 os) #[.int .u8 0, .int .u8 0, .slice none 0 0] 8 rfl (World.shaped_of_RefB (by kernel_rfl) (by kernel_rfl)) (by kernel_rfl) (by kernel_rfl) (by kernel_rfl) (door_met os _))
      rfl agentOne_spec laidOut (by kernel_rfl) (by kernel_rfl) Tryd.underlying4 agentOne_call)

theorem agentOne_plain (f : FuncId) (fn : Func) (hf : Tryd.pinned.checked.prog.funcNamed "bellows/bellowslaw08.AgentOne" = some f) (hfn : Tryd.pinned.checked.prog.funcs[f]? = some fn) :
    false = Tryd.pinned.checked.prog.looks [] ∧ ∀ (j : Nat) t, fn.params[j]? = some t → Tryd.pinned.checked.prog.wantsStandIn t = false := by
  obtain rfl : f = 4 := Option.some.inj ((show Tryd.prog.funcNamed "bellows/bellowslaw08.AgentOne" = some 4 by kernel_rfl).symm.trans hf) |>.symm
  obtain rfl : fn = Tryd.f4 := (Option.some.inj (Tryd.func4.symm.trans hfn)).symm
  refine ⟨by kernel_rfl, fun j t ht => ?_⟩
  rw [Tryd.params4] at ht
  have hm : t = 5 ∨ t = 22 := by simpa using Array.mem_of_getElem? ht
  rcases hm with rfl | rfl
  all_goals exact (show Tryd.prog.wantsStandIn _ = false by kernel_rfl)
theorem agentOne_card : Rows.AgentOneCardSaid :=
  Claim7.holds_tied_plain_at .later [] _ _ _ _ agentOne_said (fun _ h => by cases h) (by kernel_rfl) (fun _ h => by cases h) agentOne_row_tie rfl ⟨rfl, rfl⟩ (by kernel_rfl) rfl agentOne_plain (by kernel_rfl)
#print axioms agentOne_card
end Go.Proofs.YtakjbgnnajdloaaDoor
