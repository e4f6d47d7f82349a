/- The statement OrderChecks: for every configuration, every image and every events. No condition. -/
import Derived.Test.YtnocekhgabgffaaOCac
import Derived.Test.YtnocekhgabgffaaOCam
import Derived.Test.YtnocekhgabgffaaRows
section
namespace Go.Proofs.Ytnocekhgabgffaa
open Go.ChangeShapes Go.WideShapes Go.ChangeAt Go.RowKit
set_option linter.unusedVariables false
set_option maxRecDepth 100000

theorem own : ownKnob Try.prog.godebug = none := by kernel_rfl
theorem laidOut : laidOutB Try.prog = true := by kernel_rfl

theorem kinds_events18 : kinds Try.prog 9 25 = some [.slice kEv14] := by kernel_rfl
theorem kinds_cfg18 : kinds Try.prog 9 23 = some (List.replicate 7 (.int .i64)) := by kernel_rfl
theorem kinds_lines18 : kinds Try.prog 9 24 = some [.slice kLine] := by kernel_rfl
theorem to_below {e : Ending} {W w' : World} (h : e = .returned (.bool true) ∧ Chg [] W w') : e = .returned (.bool true) ∧ Below W.heap.size W w' := ⟨h.1, h.2.below (Nat.le_refl _) (by simp)⟩

theorem orderChecks_spec {H : Type} : ∀ ds : List (DataW H), ds.length = Try.f3.params.toList.length → Rows.orderChecksSpec.fn H ds = { results := [.lit (.bool true)], args := ds } := by
  intro ds h
  rw [show Try.f3.params.toList.length = 3 by kernel_rfl] at h
  match ds, h with
  | [d1, d2, d3], _ => rfl

theorem orderChecks_call {H : Type} {enc : TypeId × Value → H} : ∀ (W : World) (base : Nat) (args : Array Value) (ds : List (DataW H)) (ps : List MemPlace),
      (∀ (j : Nat) t v, Try.f3.params[j]? = some t → args[j]? = some v → Value.okWide Try.checked.prog W .any base t v) →
      DataW.TrodAll enc Try.checked.prog W 0 (fun _ => true) true Try.f3.params.toList args.toList ds ps → (∀ x ∈ ps, x.block < W.heap.size) → W.noneFrozen ps →
      (DataW.weightsEach Try.checked.prog Try.f3.params.toList ds).all (· ≤ reachBytes) = true →
      Calls Try.checked.prog 3 args W fun e W' => e = .returned (.bool true) ∧ Below W.heap.size W W' := by
  intro W base args ds ps hval0 hA0 hlt hfz hsz
  have hval : ∀ (j : Nat) t v, Try.f3.params[j]? = some t → args[j]? = some v → Value.okWide Try.prog W .any base t v := hval0
  have hA : DataW.TrodAll enc Try.prog W 0 (fun _ => true) true Try.f3.params.toList args.toList ds ps := hA0
  rw [Try.params3] at hA hval
  obtain ⟨v0, vs0, d0, ds0, p0, q0, hargs, rfl, rfl, h0, r0⟩ := trodAll_cons hA
  obtain ⟨v1, vs1, d1, ds1, p1, q1, rfl, rfl, rfl, h1, r1⟩ := trodAll_cons r0
  obtain ⟨v2, vs2, d2, ds2, p2, q2, rfl, rfl, rfl, h2, r2⟩ := trodAll_cons r1
  obtain ⟨rfl, rfl, rfl⟩ := trodAll_nil r2
  obtain rfl : args = #[v0, v1, v2] := by cases args; simp_all
  clear hA0 hval0 hsz hfz hlt
  obtain ⟨cs, rfl, hk0⟩ := open_row (by rw [Try.underlying23]) kinds_cfg18 (hval 0 23 _ rfl rfl) h0
  obtain ⟨ns, hlc, rfl, _⟩ := hk0.ints
  obtain ⟨B, k, ck, img, rfl, hkk, hck, hb, _⟩ := (open_sl Try.underlying24 kinds_lines18 (hval 1 24 _ rfl rfl) h1).lines
  obtain ⟨A, n, c, xs, rfl, hn, hc, hs, _, hk⟩ := (open_sl Try.underlying25 kinds_events18 (hval 2 25 _ rfl rfl) h2).rows
  obtain ⟨l, hl, rfl⟩ := evs_of18 n xs hs.1 hk
  match ns, hlc with
  | [c0, c1, c2, c3, c4, c5, c6], _ => exact (orderchecks_any c0 c1 c2 c3 c4 c5 c6 img l W hb hs hl (Nat.le_trans hn hc) (Nat.le_trans hkk hck)).mono fun e w' h => to_below h

set_option maxRecDepth 100000 in
theorem orderChecks_holds : Rows.OrderChecksSaid :=
  OpenClaim.holds_of_wide 3 Try.f3 rfl rfl rfl rfl rfl rfl rfl ⟨rfl, rfl, rfl, rfl, rfl⟩ rfl rfl rfl rfl rfl (by kernel_rfl) Try.func3 (by kernel_rfl)
    (of_decide_eq_true (by kernel_rfl)) (by unfold Func.isWrapper; first | (rw [if_pos (by decide +kernel)]; kernel_rfl) | (rw [if_neg (by decide +kernel)]; exact ⟨rfl, rfl⟩))
    (fun os started H enc _ => law_ret (C := Try.checked) (tb := 4) own started (by kernel_rfl) Try.func3
      (ChangeSpec.witness6 (enc := enc) (C := Try.checked) false ⟨#[], #[.agg #[.int .i64 0, .int .i64 0, .int .i64 0, .int .i64 0, .int .i64 0, .int .i64 0, .int .i64 0], .slice none 0 0, .slice none 0 0], []⟩ 8 (by kernel_rfl) (by kernel_rfl) (by kernel_rfl) (by kernel_rfl))
      rfl orderChecks_spec laidOut (by kernel_rfl) (by kernel_rfl) Try.underlying4 orderChecks_call)
#print axioms orderChecks_holds
end Go.Proofs.Ytnocekhgabgffaa
end
