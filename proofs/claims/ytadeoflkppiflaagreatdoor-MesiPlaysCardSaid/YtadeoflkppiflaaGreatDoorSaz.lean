/- A statement of layer 9, with the tables of what a kind of messages may have, and of what messages make of slots, tied to the program's text: for every argument. No condition. -/
import Derived.Test.YtadeoflkppiflaaGreatDoorSab
import Derived.Test.YtadeoflkppiflaaGreatDoorSao
import Derived.Test.YtadeoflkppiflaaGreatDoorSay
import Derived.LaidMore
import Derived.SevenTiedAt
import Derived.Test.YtadeoflkppiflaaGreatDoorCards
import Derived.Test.YtadeoflkppiflaaGreatDoorTie
namespace Go.Proofs.YtadeoflkppiflaaGreatDoor
open Go.ChangeShapes Go.WideShapes Go.ChangeAt Go.RowKit
set_option linter.unusedVariables false
theorem kinds_lines : kinds Tryz.prog 9 24 = some [.slice kLine] := by kernel_rfl

theorem mesiPlays_spec {H : Type} : ∀ ds : List (DataW H), ds.length = Tryz.f3.params.toList.length → Rows.mesiPlaysSpec.fn H ds = { results := [.lit (.bool true)], args := ds } := by
  intro ds h
  rw [show Tryz.f3.params.toList.length = 3 by kernel_rfl] at h
  match ds, h with
  | [d1, d2, d3], _ => rfl

set_option maxRecDepth 100000 in
theorem mesiPlays_call {H : Type} {enc : TypeId × Value → H} : ∀ (W : World) (base : Nat) (args : Array Value) (ds : List (DataW H)) (ps : List MemPlace),
      (∀ (j : Nat) t v, Tryz.f3.params[j]? = some t → args[j]? = some v → Value.okWide Tryz.checked.prog W .any base t v) →
      DataW.TrodAll enc Tryz.checked.prog W 0 (fun _ => true) true Tryz.f3.params.toList args.toList ds ps → (∀ x ∈ ps, x.block < W.heap.size) → W.noneFrozen ps →
      (DataW.weightsEach Tryz.checked.prog Tryz.f3.params.toList ds).all (· ≤ reachBytes) = true → laidMetH Tryz.checked.prog laidM W →
      Calls Tryz.checked.prog 3 args W fun e W' => e = .returned (.bool true) ∧ Below W.heap.size W W' := by
  intro W base args ds ps hval0 hA0 hlt hfz hsz hL
  have ht := tabs_of_laid hL
  have hval : ∀ (j : Nat) t v, Tryz.f3.params[j]? = some t → args[j]? = some v → Value.okWide Tryz.prog W .any base t v := hval0
  have hA : DataW.TrodAll enc Tryz.prog W 0 (fun _ => true) true Tryz.f3.params.toList args.toList ds ps := hA0
  rw [Tryz.params3] at hA hval
  obtain ⟨v0, vs0, d0, ds0, p0, q0, hargs, rfl, rfl, h0, r0⟩ := trodAll_cons hA
  obtain ⟨v1, vs1, d1, ds1, p1, q1, rfl, rfl, rfl, h1, r1⟩ := trodAll_cons r0
  obtain ⟨v2, vs2, d2, ds2, p2, q2, rfl, rfl, rfl, h2, r2⟩ := trodAll_cons r1
  obtain ⟨rfl, rfl, rfl⟩ := trodAll_nil r2
  obtain rfl : args = #[v0, v1, v2] := by cases args; simp_all
  clear hA0 hval0 hsz hfz hlt
  obtain ⟨cs0, rfl, hk0⟩ := open_row (by rw [Tryz.underlying23]) kinds_cfg (hval 0 23 _ rfl rfl) h0
  obtain ⟨k0, k1, k2, k3, k4, k5, k6, rfl⟩ := cfg_cells hk0
  obtain ⟨B, M, cM, zs, rfl, hM, hcM, hszs, _⟩ := (open_sl Tryz.underlying24 kinds_lines (hval 1 24 _ rfl rfl) h1).lines
  obtain ⟨A, n, c, xs, rfl, hn, hc, hs, _, hk⟩ := (open_sl Tryz.underlying25 kinds_msts (hval 2 25 _ rfl rfl) h2).rows
  exact (mplays_any k0 k1 k2 k3 k4 k5 k6 B M cM zs A n c xs W ht hszs (Nat.le_trans hM hcM) hs (Nat.le_trans hn hc) hk).mono fun e w' h => to_below h

set_option maxHeartbeats 4000000 in
set_option maxRecDepth 100000 in
theorem mesiPlays_said : Rows.MesiPlaysSaid :=
  OpenClaim.holds_of_wide 3 Tryz.f3 rfl rfl rfl rfl rfl rfl rfl ⟨rfl, rfl, rfl, rfl, rfl⟩ rfl rfl rfl rfl rfl (by as_aux_lemma => kernel_rfl) Tryz.func3 (by as_aux_lemma => kernel_rfl)
    (of_decide_eq_true (by as_aux_lemma => kernel_rfl)) (by as_aux_lemma => unfold Func.isWrapper; first | (rw [if_pos (by decide +kernel)]; kernel_rfl) | (rw [if_neg (by decide +kernel)]; exact ⟨rfl, rfl⟩))
    (fun os started H enc _ => law_ret_laid (C := Tryz.checked) (tb := 4) (laid := laidM) own started (by as_aux_lemma => kernel_rfl) Tryz.func3
      (ChangeSpec.witness_shaped (enc := enc) (C := Tryz.checked) (os := os) (X := fun w _ => laidMetH Tryz.prog laidM w) false (World.doorLaid Tryz.prog 200 os) #[.agg #[.int .i64 0, .int .i64 0, .int .i64 0, .int .i64 0, .int .i64 0, .int .i64 0, .int .i64 0], .slice none 0 0, .slice none 0 0] 8 rfl (World.shaped_of_RefB (by as_aux_lemma => kernel_rfl) (by as_aux_lemma => kernel_rfl)) (by as_aux_lemma => kernel_rfl) (by as_aux_lemma => kernel_rfl) (by as_aux_lemma => kernel_rfl) (door_met os _))
      rfl mesiPlays_spec laidOut (by as_aux_lemma => kernel_rfl) (by as_aux_lemma => kernel_rfl) Tryz.underlying4 mesiPlays_call)

theorem mesiPlays_plain (f : FuncId) (fn : Func) (hf : Tryz.pinned.checked.prog.funcNamed "bellows/bellowslaw09.MesiPlays" = some f) (hfn : Tryz.pinned.checked.prog.funcs[f]? = some fn) :
    false = Tryz.pinned.checked.prog.looks [] ∧ ∀ (j : Nat) t, fn.params[j]? = some t → Tryz.pinned.checked.prog.wantsStandIn t = false := by
  obtain rfl : f = 3 := Option.some.inj ((show Tryz.prog.funcNamed "bellows/bellowslaw09.MesiPlays" = some 3 by kernel_rfl).symm.trans hf) |>.symm
  obtain rfl : fn = Tryz.f3 := (Option.some.inj (Tryz.func3.symm.trans hfn)).symm
  refine ⟨by kernel_rfl, fun j t ht => ?_⟩
  rw [Tryz.params3] at ht
  have hm : t = 23 ∨ t = 24 ∨ t = 25 := by simpa using Array.mem_of_getElem? ht
  rcases hm with rfl | rfl | rfl
  all_goals exact (show Tryz.prog.wantsStandIn _ = false by kernel_rfl)
theorem mesiPlays_card : Rows.MesiPlaysCardSaid :=
  Claim7.holds_tied_plain_at .later [] _ _ _ _ mesiPlays_said (fun _ h => by cases h) (by kernel_rfl) (fun _ h => by cases h) mesiPlays_row_tie rfl ⟨rfl, rfl⟩ (by kernel_rfl) rfl mesiPlays_plain (by kernel_rfl)
#print axioms mesiPlays_card
end Go.Proofs.YtadeoflkppiflaaGreatDoor
