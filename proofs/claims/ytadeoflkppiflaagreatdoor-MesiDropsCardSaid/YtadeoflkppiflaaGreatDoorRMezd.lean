/- A statement of layer 9, with the tables of what a kind of messages may have, and of what messages make of slots, tied to the program's text: for every argument. No condition. -/
import Derived.Test.YtadeoflkppiflaaGreatDoorOav
import Derived.Test.YtadeoflkppiflaaGreatDoorCards
import Derived.Test.YtadeoflkppiflaaGreatDoorTie
import Derived.LaidMore
import Derived.SevenTiedAt
namespace Go.Proofs.YtadeoflkppiflaaGreatDoor
open Go.ChangeShapes Go.WideShapes Go.ChangeAt Go.RowKit
set_option linter.unusedVariables false
theorem kinds_mst : kinds Tryz.prog 9 42 = some kMst := by kernel_rfl

theorem mesiDrops_spec {H : Type} : ∀ ds : List (DataW H), ds.length = Tryz.f10.params.toList.length → Rows.mesiDropsSpec.fn H ds = { results := [.lit (.bool true)], args := ds } := by
  intro ds h
  rw [show Tryz.f10.params.toList.length = 2 by kernel_rfl] at h
  match ds, h with
  | [d1, d2], _ => rfl

set_option maxRecDepth 100000 in
theorem mesiDrops_call {H : Type} {enc : TypeId × Value → H} : ∀ (W : World) (base : Nat) (args : Array Value) (ds : List (DataW H)) (ps : List MemPlace),
      (∀ (j : Nat) t v, Tryz.f10.params[j]? = some t → args[j]? = some v → Value.okWide Tryz.checked.prog W .any base t v) →
      DataW.TrodAll enc Tryz.checked.prog W 0 (fun _ => true) true Tryz.f10.params.toList args.toList ds ps → (∀ x ∈ ps, x.block < W.heap.size) → W.noneFrozen ps →
      (DataW.weightsEach Tryz.checked.prog Tryz.f10.params.toList ds).all (· ≤ reachBytes) = true → laidMetH Tryz.checked.prog laidM W →
      Calls Tryz.checked.prog 10 args W fun e W' => e = .returned (.bool true) ∧ Below W.heap.size W W' := by
  intro W base args ds ps hval0 hA0 hlt hfz hsz hL
  have ht := tabs_of_laid hL
  have hval : ∀ (j : Nat) t v, Tryz.f10.params[j]? = some t → args[j]? = some v → Value.okWide Tryz.prog W .any base t v := hval0
  have hA : DataW.TrodAll enc Tryz.prog W 0 (fun _ => true) true Tryz.f10.params.toList args.toList ds ps := hA0
  rw [Tryz.params10] at hA hval
  obtain ⟨v0, vs0, d0, ds0, p0, q0, hargs, rfl, rfl, h0, r0⟩ := trodAll_cons hA
  obtain ⟨v1, vs1, d1, ds1, p1, q1, rfl, rfl, rfl, h1, r1⟩ := trodAll_cons r0
  obtain ⟨rfl, rfl, rfl⟩ := trodAll_nil r1
  obtain rfl : args = #[v0, v1] := by cases args; simp_all
  clear hA0 hval0 hsz hfz hlt
  obtain ⟨cs0, rfl, hk0⟩ := open_row (by rw [Tryz.underlying23]) kinds_cfg (hval 0 23 _ rfl rfl) h0
  obtain ⟨k0, k1, k2, k3, k4, k5, k6, rfl⟩ := cfg_cells hk0
  obtain ⟨cs1, rfl, hk1⟩ := open_row (by rw [Tryz.underlying42]) kinds_mst (hval 1 42 _ rfl rfl) h1
  obtain ⟨x, rfl, _⟩ := mstep_cellsV hk1
  exact (mMesiDrops_any k0 k1 k2 k3 k4 k5 k6 x W ht).mono fun e w' h => to_below h

set_option maxRecDepth 100000 in
theorem mesiDrops_said : Rows.MesiDropsSaid :=
  OpenClaim.holds_of_wide 10 Tryz.f10 rfl rfl rfl rfl rfl rfl rfl ⟨rfl, rfl, rfl, rfl, rfl⟩ rfl rfl rfl rfl rfl (by kernel_rfl) Tryz.func10 (by kernel_rfl)
    (of_decide_eq_true (by kernel_rfl)) (by unfold Func.isWrapper; first | (rw [if_pos (by decide +kernel)]; kernel_rfl) | (rw [if_neg (by decide +kernel)]; exact ⟨rfl, rfl⟩))
    (fun os started H enc _ => law_ret_laid (C := Tryz.checked) (tb := 4) (laid := laidM) own started (by kernel_rfl) Tryz.func10
      (ChangeSpec.witness_shaped (enc := enc) (C := Tryz.checked) (os := os) (X := fun w _ => laidMetH Tryz.prog laidM w) false (World.doorLaid Tryz.prog 200 os) #[.agg #[.int .i64 0, .int .i64 0, .int .i64 0, .int .i64 0, .int .i64 0, .int .i64 0, .int .i64 0], .agg #[.int .i64 0, .int .i64 0, .int .i64 0, .int .i64 0, .int .u64 0]] 8 rfl (World.shaped_of_RefB (by kernel_rfl) (by kernel_rfl)) (by kernel_rfl) (by kernel_rfl) (by kernel_rfl) (door_met os _))
      rfl mesiDrops_spec laidOut (by kernel_rfl) (by kernel_rfl) Tryz.underlying4 mesiDrops_call)

theorem mesiDrops_plain (f : FuncId) (fn : Func) (hf : Tryz.pinned.checked.prog.funcNamed "bellows/bellowslaw09.MesiDrops" = some f) (hfn : Tryz.pinned.checked.prog.funcs[f]? = some fn) :
    false = Tryz.pinned.checked.prog.looks [] ∧ ∀ (j : Nat) t, fn.params[j]? = some t → Tryz.pinned.checked.prog.wantsStandIn t = false := by
  obtain rfl : f = 10 := Option.some.inj ((show Tryz.prog.funcNamed "bellows/bellowslaw09.MesiDrops" = some 10 by kernel_rfl).symm.trans hf) |>.symm
  obtain rfl : fn = Tryz.f10 := (Option.some.inj (Tryz.func10.symm.trans hfn)).symm
  refine ⟨by kernel_rfl, fun j t ht => ?_⟩
  rw [Tryz.params10] at ht
  have hm : t = 23 ∨ t = 42 := by simpa using Array.mem_of_getElem? ht
  rcases hm with rfl | rfl
  all_goals exact (show Tryz.prog.wantsStandIn _ = false by kernel_rfl)
theorem mesiDrops_card : Rows.MesiDropsCardSaid :=
  Claim7.holds_tied_plain_at .later [] _ _ _ _ mesiDrops_said (fun _ h => by cases h) (by kernel_rfl) (fun _ h => by cases h) mesiDrops_row_tie rfl ⟨rfl, rfl⟩ (by kernel_rfl) rfl mesiDrops_plain (by kernel_rfl)
#print axioms mesiDrops_card
end Go.Proofs.YtadeoflkppiflaaGreatDoor
