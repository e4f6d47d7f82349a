/- A statement of layer 9, with the tables of what a kind of messages may have, and of what messages make of slots, tied to the program's text: for every argument. No condition. -/
import Derived.Test.YtadeoflkppiflaaGreatDoorOav
import Derived.Test.YtadeoflkppiflaaGreatDoorCards
import Derived.Test.YtadeoflkppiflaaGreatDoorTie
import Derived.LaidMore
import Derived.SevenTiedAt
namespace Go.Proofs.YtadeoflkppiflaaGreatDoor
open Go.ChangeShapes Go.WideShapes Go.ChangeAt Go.RowKit
set_option linter.unusedVariables false

theorem mesiHands_spec {H : Type} : ∀ ds : List (DataW H), ds.length = Tryz.f9.params.toList.length → Rows.mesiHandsSpec.fn H ds = { results := [.lit (.bool true)], args := ds } := by
  intro ds h
  rw [show Tryz.f9.params.toList.length = 2 by kernel_rfl] at h
  match ds, h with
  | [d1, d2], _ => rfl

set_option maxRecDepth 100000 in
theorem mesiHands_call {H : Type} {enc : TypeId × Value → H} : ∀ (W : World) (base : Nat) (args : Array Value) (ds : List (DataW H)) (ps : List MemPlace),
      (∀ (j : Nat) t v, Tryz.f9.params[j]? = some t → args[j]? = some v → Value.okWide Tryz.checked.prog W .any base t v) →
      DataW.TrodAll enc Tryz.checked.prog W 0 (fun _ => true) true Tryz.f9.params.toList args.toList ds ps → (∀ x ∈ ps, x.block < W.heap.size) → W.noneFrozen ps →
      (DataW.weightsEach Tryz.checked.prog Tryz.f9.params.toList ds).all (· ≤ reachBytes) = true → laidMetH Tryz.checked.prog laidM W →
      Calls Tryz.checked.prog 9 args W fun e W' => e = .returned (.bool true) ∧ Below W.heap.size W W' := by
  intro W base args ds ps hval0 hA0 hlt hfz hsz hL
  have ht := tabs_of_laid hL
  have hval : ∀ (j : Nat) t v, Tryz.f9.params[j]? = some t → args[j]? = some v → Value.okWide Tryz.prog W .any base t v := hval0
  have hA : DataW.TrodAll enc Tryz.prog W 0 (fun _ => true) true Tryz.f9.params.toList args.toList ds ps := hA0
  rw [Tryz.params9] at hA hval
  obtain ⟨v0, vs0, d0, ds0, p0, q0, hargs, rfl, rfl, h0, r0⟩ := trodAll_cons hA
  obtain ⟨v1, vs1, d1, ds1, p1, q1, rfl, rfl, rfl, h1, r1⟩ := trodAll_cons r0
  obtain ⟨rfl, rfl, rfl⟩ := trodAll_nil r1
  obtain rfl : args = #[v0, v1] := by cases args; simp_all
  clear hA0 hval0 hsz hfz hlt
  obtain ⟨cs0, rfl, hk0⟩ := open_row (by rw [Tryz.underlying23]) kinds_cfg (hval 0 23 _ rfl rfl) h0
  obtain ⟨k0, k1, k2, k3, k4, k5, k6, rfl⟩ := cfg_cells hk0
  obtain ⟨A, n, c, xs, rfl, hn, hc, hs, _, hk⟩ := (open_sl Tryz.underlying25 kinds_msts (hval 1 25 _ rfl rfl) h1).rows
  exact (mMesiHands_any k0 k1 k2 k3 k4 k5 k6 A n c xs W ht hs (Nat.le_trans hn hc) hk).mono fun e w' h => to_below h

set_option maxRecDepth 100000 in
theorem mesiHands_said : Rows.MesiHandsSaid :=
  OpenClaim.holds_of_wide 9 Tryz.f9 rfl rfl rfl rfl rfl rfl rfl ⟨rfl, rfl, rfl, rfl, rfl⟩ rfl rfl rfl rfl rfl (by kernel_rfl) Tryz.func9 (by kernel_rfl)
    (of_decide_eq_true (by kernel_rfl)) (by unfold Func.isWrapper; first | (rw [if_pos (by decide +kernel)]; kernel_rfl) | (rw [if_neg (by decide +kernel)]; exact ⟨rfl, rfl⟩))
    (fun os started H enc _ => law_ret_laid (C := Tryz.checked) (tb := 4) (laid := laidM) own started (by kernel_rfl) Tryz.func9
      (ChangeSpec.witness_shaped (enc := enc) (C := Tryz.checked) (os := os) (X := fun w _ => laidMetH Tryz.prog laidM w) false (World.doorLaid Tryz.prog 200 os) #[.agg #[.int .i64 0, .int .i64 0, .int .i64 0, .int .i64 0, .int .i64 0, .int .i64 0, .int .i64 0], .slice none 0 0] 8 rfl (World.shaped_of_RefB (by kernel_rfl) (by kernel_rfl)) (by kernel_rfl) (by kernel_rfl) (by kernel_rfl) (door_met os _))
      rfl mesiHands_spec laidOut (by kernel_rfl) (by kernel_rfl) Tryz.underlying4 mesiHands_call)

theorem mesiHands_plain (f : FuncId) (fn : Func) (hf : Tryz.pinned.checked.prog.funcNamed "bellows/bellowslaw09.MesiHands" = some f) (hfn : Tryz.pinned.checked.prog.funcs[f]? = some fn) :
    false = Tryz.pinned.checked.prog.looks [] ∧ ∀ (j : Nat) t, fn.params[j]? = some t → Tryz.pinned.checked.prog.wantsStandIn t = false := by
  obtain rfl : f = 9 := Option.some.inj ((show Tryz.prog.funcNamed "bellows/bellowslaw09.MesiHands" = some 9 by kernel_rfl).symm.trans hf) |>.symm
  obtain rfl : fn = Tryz.f9 := (Option.some.inj (Tryz.func9.symm.trans hfn)).symm
  refine ⟨by kernel_rfl, fun j t ht => ?_⟩
  rw [Tryz.params9] at ht
  have hm : t = 23 ∨ t = 25 := by simpa using Array.mem_of_getElem? ht
  rcases hm with rfl | rfl
  all_goals exact (show Tryz.prog.wantsStandIn _ = false by kernel_rfl)
theorem mesiHands_card : Rows.MesiHandsCardSaid :=
  Claim7.holds_tied_plain_at .later [] _ _ _ _ mesiHands_said (fun _ h => by cases h) (by kernel_rfl) (fun _ h => by cases h) mesiHands_row_tie rfl ⟨rfl, rfl⟩ (by kernel_rfl) rfl mesiHands_plain (by kernel_rfl)
#print axioms mesiHands_card
end Go.Proofs.YtadeoflkppiflaaGreatDoor
