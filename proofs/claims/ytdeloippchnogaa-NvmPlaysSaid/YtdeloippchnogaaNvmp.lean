/- The statements of layer 2: for every number of lines, every steps, every image. No condition. -/
import Derived.Test.YtdeloippchnogaaRows
import Derived.Test.YtdeloippchnogaaNvmd
import Derived.Test.YtdeloippchnogaaNvme
import Derived.Test.YtdeloippchnogaaNvmf
import Derived.Test.YtdeloippchnogaaArgs
namespace Go.Proofs.Ytdeloippchnogaa
open Go.ChangeShapes Go.WideShapes Go.ChangeAt Go.RowKit
set_option linter.unusedVariables false

theorem own : ownKnob Try.prog.godebug = none := by kernel_rfl
theorem laidOut : laidOutB Try.prog = true := by kernel_rfl

theorem kinds_steps : kinds Try.prog 9 22 = some [.slice kStep] := by kernel_rfl
theorem kinds_step : kinds Try.prog 9 37 = some kStep := by kernel_rfl
theorem kinds_lines : kinds Try.prog 9 35 = some [.slice kLine] := by kernel_rfl
theorem kinds_line : kinds Try.prog 9 34 = some kLine := by kernel_rfl
theorem to_below {e : Ending} {W w' : World} (h : e = .returned (.bool true) ∧ Chg [] W w') : e = .returned (.bool true) ∧ Below W.heap.size W w' := ⟨h.1, h.2.below (Nat.le_refl _) (by simp)⟩

theorem nvmPlays_spec {H : Type} : ∀ ds : List (DataW H), ds.length = Try.f3.params.toList.length → Rows.nvmPlaysSpec.fn H ds = { results := [.lit (.bool true)], args := ds } := by
  intro ds h
  rw [show Try.f3.params.toList.length = 3 by kernel_rfl] at h
  match ds, h with
  | [d1, d2, d3], _ => rfl

theorem nvmPlays_call {H : Type} {enc : TypeId × Value → H} : ∀ (W : World) (base : Nat) (args : Array Value) (ds : List (DataW H)) (ps : List MemPlace),
      (∀ (j : Nat) t v, Try.f3.params[j]? = some t → args[j]? = some v → Value.okWide Try.checked.prog W .any base t v) →
      DataW.TrodAll enc Try.checked.prog W 0 (fun _ => true) true Try.f3.params.toList args.toList ds ps → (∀ x ∈ ps, x.block < W.heap.size) → W.noneFrozen ps →
      (DataW.weightsEach Try.checked.prog Try.f3.params.toList ds).all (· ≤ reachBytes) = true →
      Calls Try.checked.prog 3 args W fun e W' => e = .returned (.bool true) ∧ Below W.heap.size W W' := by
  intro W base args ds ps hval0 hA0 hlt hfz hsz
  have hval : ∀ (j : Nat) t v, Try.f3.params[j]? = some t → args[j]? = some v → Value.okWide Try.prog W .any base t v := hval0
  have hA : DataW.TrodAll enc Try.prog W 0 (fun _ => true) true Try.f3.params.toList args.toList ds ps := hA0
  rw [Try.params3] at hA hval
  obtain ⟨v0, vs0, d0, ds0, p0, q0, hargs, rfl, rfl, h0, r0⟩ := trodAll_cons hA
  obtain ⟨v1, vs1, d1, ds1, p1, q1, rfl, rfl, rfl, h1, r1⟩ := trodAll_cons r0
  obtain ⟨v2, vs2, d2, ds2, p2, q2, rfl, rfl, rfl, h2, r2⟩ := trodAll_cons r1
  obtain ⟨rfl, rfl, rfl⟩ := trodAll_nil r2
  obtain rfl : args = #[v0, v1, v2] := by cases args; simp_all
  clear hA0 hval0 hsz hfz hlt
  obtain ⟨l, rfl, rfl, rfl, lw⟩ := open_int Try.underlying3 (hval 0 3 _ rfl rfl) h0
  obtain ⟨v, rfl, rfl, rfl, vw⟩ := open_int Try.underlying3 (hval 1 3 _ rfl rfl) h1
  obtain ⟨A, n, c, xs, rfl, hn, hc, hs, _, hk⟩ := (open_sl Try.underlying22 kinds_steps (hval 2 22 _ rfl rfl) h2).rows
  exact (plays_any l v A n c xs W hs (Nat.le_trans hn hc) hk).mono fun e w' h => to_below h

set_option maxRecDepth 100000 in
theorem nvmPlays_holds : Rows.NvmPlaysSaid :=
  OpenClaim.holds_of_wide 3 Try.f3 rfl rfl rfl rfl rfl rfl rfl ⟨rfl, rfl, rfl, rfl, rfl⟩ rfl rfl rfl rfl rfl (by kernel_rfl) Try.func3 (by kernel_rfl)
    (of_decide_eq_true (by kernel_rfl)) (by unfold Func.isWrapper; first | (rw [if_pos (by decide +kernel)]; kernel_rfl) | (rw [if_neg (by decide +kernel)]; exact ⟨rfl, rfl⟩))
    (fun os started H enc _ => law_ret (C := Try.checked) (tb := 4) own started (by kernel_rfl) Try.func3
      (ChangeSpec.witness6 (enc := enc) (C := Try.checked) false ⟨#[], #[.int .i64 0, .int .i64 0, .slice none 0 0], []⟩ 8 (by kernel_rfl) (by kernel_rfl) (by kernel_rfl) (by kernel_rfl))
      rfl nvmPlays_spec laidOut (by kernel_rfl) (by kernel_rfl) Try.underlying4 nvmPlays_call)
#print axioms nvmPlays_holds

theorem nvmFails_spec {H : Type} : ∀ ds : List (DataW H), ds.length = Try.f4.params.toList.length → Rows.nvmFailsSpec.fn H ds = { results := [.lit (.bool true)], args := ds } := by
  intro ds h
  rw [show Try.f4.params.toList.length = 3 by kernel_rfl] at h
  match ds, h with
  | [d1, d2, d3], _ => rfl

theorem nvmFails_call {H : Type} {enc : TypeId × Value → H} : ∀ (W : World) (base : Nat) (args : Array Value) (ds : List (DataW H)) (ps : List MemPlace),
      (∀ (j : Nat) t v, Try.f4.params[j]? = some t → args[j]? = some v → Value.okWide Try.checked.prog W .any base t v) →
      DataW.TrodAll enc Try.checked.prog W 0 (fun _ => true) true Try.f4.params.toList args.toList ds ps → (∀ x ∈ ps, x.block < W.heap.size) → W.noneFrozen ps →
      (DataW.weightsEach Try.checked.prog Try.f4.params.toList ds).all (· ≤ reachBytes) = true →
      Calls Try.checked.prog 4 args W fun e W' => e = .returned (.bool true) ∧ Below W.heap.size W W' := by
  intro W base args ds ps hval0 hA0 hlt hfz hsz
  have hval : ∀ (j : Nat) t v, Try.f4.params[j]? = some t → args[j]? = some v → Value.okWide Try.prog W .any base t v := hval0
  have hA : DataW.TrodAll enc Try.prog W 0 (fun _ => true) true Try.f4.params.toList args.toList ds ps := hA0
  rw [Try.params4] at hA hval
  obtain ⟨v0, vs0, d0, ds0, p0, q0, hargs, rfl, rfl, h0, r0⟩ := trodAll_cons hA
  obtain ⟨v1, vs1, d1, ds1, p1, q1, rfl, rfl, rfl, h1, r1⟩ := trodAll_cons r0
  obtain ⟨v2, vs2, d2, ds2, p2, q2, rfl, rfl, rfl, h2, r2⟩ := trodAll_cons r1
  obtain ⟨rfl, rfl, rfl⟩ := trodAll_nil r2
  obtain rfl : args = #[v0, v1, v2] := by cases args; simp_all
  clear hA0 hval0 hsz hfz hlt
  obtain ⟨n, rfl, rfl, rfl, nw⟩ := open_int Try.underlying5 (hval 0 5 _ rfl rfl) h0
  obtain ⟨v, rfl, rfl, rfl, vw⟩ := open_int Try.underlying5 (hval 1 5 _ rfl rfl) h1
  obtain ⟨A, m, c, xs, rfl, hm, hc, hs, _⟩ := (open_sl Try.underlying35 kinds_lines (hval 2 35 _ rfl rfl) h2).lines
  have b0 := bounds_u8 nw
  have b1 := bounds_u8 vw
  exact (fails_any n v b0.1 b0.2 b1.1 b1.2 A m c xs W hs (Nat.le_trans hm hc)).mono fun e w' h => to_below h

set_option maxRecDepth 100000 in
theorem nvmFails_holds : Rows.NvmFailsSaid :=
  OpenClaim.holds_of_wide 4 Try.f4 rfl rfl rfl rfl rfl rfl rfl ⟨rfl, rfl, rfl, rfl, rfl⟩ rfl rfl rfl rfl rfl (by kernel_rfl) Try.func4 (by kernel_rfl)
    (of_decide_eq_true (by kernel_rfl)) (by unfold Func.isWrapper; first | (rw [if_pos (by decide +kernel)]; kernel_rfl) | (rw [if_neg (by decide +kernel)]; exact ⟨rfl, rfl⟩))
    (fun os started H enc _ => law_ret (C := Try.checked) (tb := 4) own started (by kernel_rfl) Try.func4
      (ChangeSpec.witness6 (enc := enc) (C := Try.checked) false ⟨#[], #[.int .u8 0, .int .u8 0, .slice none 0 0], []⟩ 8 (by kernel_rfl) (by kernel_rfl) (by kernel_rfl) (by kernel_rfl))
      rfl nvmFails_spec laidOut (by kernel_rfl) (by kernel_rfl) Try.underlying4 nvmFails_call)
#print axioms nvmFails_holds

theorem nvmNone_spec {H : Type} : ∀ ds : List (DataW H), ds.length = Try.f5.params.toList.length → Rows.nvmNoneSpec.fn H ds = { results := [.lit (.bool true)], args := ds } := by
  intro ds h
  rw [show Try.f5.params.toList.length = 1 by kernel_rfl] at h
  match ds, h with
  | [d1], _ => rfl

theorem nvmNone_call {H : Type} {enc : TypeId × Value → H} : ∀ (W : World) (base : Nat) (args : Array Value) (ds : List (DataW H)) (ps : List MemPlace),
      (∀ (j : Nat) t v, Try.f5.params[j]? = some t → args[j]? = some v → Value.okWide Try.checked.prog W .any base t v) →
      DataW.TrodAll enc Try.checked.prog W 0 (fun _ => true) true Try.f5.params.toList args.toList ds ps → (∀ x ∈ ps, x.block < W.heap.size) → W.noneFrozen ps →
      (DataW.weightsEach Try.checked.prog Try.f5.params.toList ds).all (· ≤ reachBytes) = true →
      Calls Try.checked.prog 5 args W fun e W' => e = .returned (.bool true) ∧ Below W.heap.size W W' := by
  intro W base args ds ps hval0 hA0 hlt hfz hsz
  have hval : ∀ (j : Nat) t v, Try.f5.params[j]? = some t → args[j]? = some v → Value.okWide Try.prog W .any base t v := hval0
  have hA : DataW.TrodAll enc Try.prog W 0 (fun _ => true) true Try.f5.params.toList args.toList ds ps := hA0
  rw [Try.params5] at hA hval
  obtain ⟨v0, vs0, d0, ds0, p0, q0, hargs, rfl, rfl, h0, r0⟩ := trodAll_cons hA
  obtain ⟨rfl, rfl, rfl⟩ := trodAll_nil r0
  obtain rfl : args = #[v0] := by cases args; simp_all
  clear hA0 hval0 hsz hfz hlt
  obtain ⟨cs, rfl, hk⟩ := open_row (by rw [Try.underlying37]) kinds_step (hval 0 37 _ rfl rfl) h0
  obtain ⟨kd, li, a0, a1, a2, a3, a4, a5, a6, a7, A', n', c', ys, rfl, _⟩ := step_cells hk
  exact (none_any kd li a0 a1 a2 a3 a4 a5 a6 a7 A' n' c' W).mono fun e w' h => to_below h

set_option maxRecDepth 100000 in
theorem nvmNone_holds : Rows.NvmNoneSaid :=
  OpenClaim.holds_of_wide 5 Try.f5 rfl rfl rfl rfl rfl rfl rfl ⟨rfl, rfl, rfl, rfl, rfl⟩ rfl rfl rfl rfl rfl (by kernel_rfl) Try.func5 (by kernel_rfl)
    (of_decide_eq_true (by kernel_rfl)) (by unfold Func.isWrapper; first | (rw [if_pos (by decide +kernel)]; kernel_rfl) | (rw [if_neg (by decide +kernel)]; exact ⟨rfl, rfl⟩))
    (fun os started H enc _ => law_ret (C := Try.checked) (tb := 4) own started (by kernel_rfl) Try.func5
      (ChangeSpec.witness6 (enc := enc) (C := Try.checked) false ⟨#[], #[.agg #[.int .i64 0, .int .i64 0, .int .u64 0, .int .u64 0, .int .u64 0, .int .u64 0, .int .u64 0, .int .u64 0, .int .u64 0, .int .u64 0, .slice none 0 0]], []⟩ 8 (by kernel_rfl) (by kernel_rfl) (by kernel_rfl) (by kernel_rfl))
      rfl nvmNone_spec laidOut (by kernel_rfl) (by kernel_rfl) Try.underlying4 nvmNone_call)
#print axioms nvmNone_holds

theorem nvmOwn_spec {H : Type} : ∀ ds : List (DataW H), ds.length = Try.f6.params.toList.length → Rows.nvmOwnSpec.fn H ds = { results := [.lit (.bool true)], args := ds } := by
  intro ds h
  rw [show Try.f6.params.toList.length = 3 by kernel_rfl] at h
  match ds, h with
  | [d1, d2, d3], _ => rfl

theorem nvmOwn_call {H : Type} {enc : TypeId × Value → H} : ∀ (W : World) (base : Nat) (args : Array Value) (ds : List (DataW H)) (ps : List MemPlace),
      (∀ (j : Nat) t v, Try.f6.params[j]? = some t → args[j]? = some v → Value.okWide Try.checked.prog W .any base t v) →
      DataW.TrodAll enc Try.checked.prog W 0 (fun _ => true) true Try.f6.params.toList args.toList ds ps → (∀ x ∈ ps, x.block < W.heap.size) → W.noneFrozen ps →
      (DataW.weightsEach Try.checked.prog Try.f6.params.toList ds).all (· ≤ reachBytes) = true →
      Calls Try.checked.prog 6 args W fun e W' => e = .returned (.bool true) ∧ Below W.heap.size W W' := by
  intro W base args ds ps hval0 hA0 hlt hfz hsz
  have hval : ∀ (j : Nat) t v, Try.f6.params[j]? = some t → args[j]? = some v → Value.okWide Try.prog W .any base t v := hval0
  have hA : DataW.TrodAll enc Try.prog W 0 (fun _ => true) true Try.f6.params.toList args.toList ds ps := hA0
  rw [Try.params6] at hA hval
  obtain ⟨v0, vs0, d0, ds0, p0, q0, hargs, rfl, rfl, h0, r0⟩ := trodAll_cons hA
  obtain ⟨v1, vs1, d1, ds1, p1, q1, rfl, rfl, rfl, h1, r1⟩ := trodAll_cons r0
  obtain ⟨v2, vs2, d2, ds2, p2, q2, rfl, rfl, rfl, h2, r2⟩ := trodAll_cons r1
  obtain ⟨rfl, rfl, rfl⟩ := trodAll_nil r2
  obtain rfl : args = #[v0, v1, v2] := by cases args; simp_all
  clear hA0 hval0 hsz hfz hlt
  obtain ⟨A, m, c, xs, rfl, hm, hc, hs, _⟩ := (open_sl Try.underlying35 kinds_lines (hval 0 35 _ rfl rfl) h0).lines
  obtain ⟨n, rfl, rfl, rfl, nw⟩ := open_int Try.underlying5 (hval 1 5 _ rfl rfl) h1
  obtain ⟨cs, rfl, hk⟩ := open_row (by rw [Try.underlying34]) kinds_line (hval 2 34 _ rfl rfl) h2
  obtain ⟨ns, hl, rfl, _⟩ := AreKd.ints hk
  have b0 := bounds_u8 nw
  exact (own_any n b0.1 b0.2 ns hl A m c xs W hs (Nat.le_trans hm hc)).mono fun e w' h => to_below h

set_option maxRecDepth 100000 in
theorem nvmOwn_holds : Rows.NvmOwnSaid :=
  OpenClaim.holds_of_wide 6 Try.f6 rfl rfl rfl rfl rfl rfl rfl ⟨rfl, rfl, rfl, rfl, rfl⟩ rfl rfl rfl rfl rfl (by kernel_rfl) Try.func6 (by kernel_rfl)
    (of_decide_eq_true (by kernel_rfl)) (by unfold Func.isWrapper; first | (rw [if_pos (by decide +kernel)]; kernel_rfl) | (rw [if_neg (by decide +kernel)]; exact ⟨rfl, rfl⟩))
    (fun os started H enc _ => law_ret (C := Try.checked) (tb := 4) own started (by kernel_rfl) Try.func6
      (ChangeSpec.witness6 (enc := enc) (C := Try.checked) false ⟨#[], #[.slice none 0 0, .int .u8 0, .agg #[.int .u64 0, .int .u64 0, .int .u64 0, .int .u64 0, .int .u64 0, .int .u64 0, .int .u64 0, .int .u64 0]], []⟩ 8 (by kernel_rfl) (by kernel_rfl) (by kernel_rfl) (by kernel_rfl))
      rfl nvmOwn_spec laidOut (by kernel_rfl) (by kernel_rfl) Try.underlying4 nvmOwn_call)
#print axioms nvmOwn_holds
end Go.Proofs.Ytdeloippchnogaa
