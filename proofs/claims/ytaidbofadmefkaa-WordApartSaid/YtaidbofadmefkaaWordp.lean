/- The statements of layer 1: for every line, place and word; every configuration; every four places. No condition. -/
import Derived.Test.YtaidbofadmefkaaRows
import Derived.Test.YtaidbofadmefkaaWordk
import Derived.Test.YtaidbofadmefkaaOpen
namespace Go.Proofs.Ytaidbofadmefkaa
open Go.ChangeShapes Go.WideShapes Go.ChangeAt Go.RowKit
set_option linter.unusedVariables false

theorem own : ownKnob Try.prog.godebug = none := by kernel_rfl
theorem laidOut : laidOutB Try.prog = true := by kernel_rfl

theorem wordLines_spec {H : Type} : ∀ ds : List (DataW H), ds.length = Try.f3.params.toList.length → Rows.wordLinesSpec.fn H ds = { results := [.lit (.bool true)], args := ds } := by
  intro ds h
  rw [show Try.f3.params.toList.length = 3 by kernel_rfl] at h
  match ds, h with
  | [d1, d2, d3], _ => rfl

theorem wordLines_call {H : Type} {enc : TypeId × Value → H} : ∀ (W : World) (base : Nat) (args : Array Value) (ds : List (DataW H)) (ps : List MemPlace),
      (∀ (j : Nat) t v, Try.f3.params[j]? = some t → args[j]? = some v → Value.okWide Try.checked.prog W .any base t v) →
      DataW.TrodAll enc Try.checked.prog W 0 (fun _ => true) true Try.f3.params.toList args.toList ds ps → (∀ x ∈ ps, x.block < W.heap.size) → W.noneFrozen ps →
      (DataW.weightsEach Try.checked.prog Try.f3.params.toList ds).all (· ≤ reachBytes) = true →
      Calls Try.checked.prog 3 args W fun e W' => e = .returned (.bool true) ∧ Below W.heap.size W W' := by
  intro W base args ds ps hval0 hA0 hlt hfz hsz
  have hval : ∀ (j : Nat) t v, Try.f3.params[j]? = some t → args[j]? = some v → Value.okWide Try.prog W .any base t v := hval0
  have hA : DataW.TrodAll enc Try.prog W 0 (fun _ => true) true Try.f3.params.toList args.toList ds ps := hA0
  rw [Try.params3] at hA hval
  obtain ⟨v0, vs0, d0, ds0, p0, q0, hargs, rfl, rfl, h0, r0⟩ := trodAll_cons hA
  obtain ⟨v1, vs1, d1, ds1, p1, q1, rfl, rfl, rfl, h1, r1⟩ := trodAll_cons r0
  obtain ⟨v2, vs2, d2, ds2, p2, q2, rfl, rfl, rfl, h2, r2⟩ := trodAll_cons r1
  obtain ⟨rfl, rfl, rfl⟩ := trodAll_nil r2
  obtain rfl : args = #[v0, v1, v2] := by cases args; simp_all
  clear hA0 hval0 hsz hfz hlt
  obtain ⟨ns, hl, rfl, _⟩ := open_int_array Try.underlying24 Try.underlying22 (by kernel_rfl) (by kernel_rfl) (hval 0 24 _ rfl rfl) h0
  obtain ⟨a0, a1, a2, a3, a4, a5, a6, a7, rfl⟩ := list8 ns hl
  obtain ⟨n, rfl, rfl, rfl, nw⟩ := open_int Try.underlying3 (hval 1 3 _ rfl rfl) h1
  obtain ⟨v, rfl, rfl, rfl, vw⟩ := open_int Try.underlying22 (hval 2 22 _ rfl rfl) h2
  by_cases hn : 0 ≤ n ∧ n ≤ 7
  · obtain rfl | rfl | rfl | rfl | rfl | rfl | rfl | rfl := eight n hn.1 hn.2
    · exact lines_0 a0 a1 a2 a3 a4 a5 a6 a7 v W
    · exact lines_1 a0 a1 a2 a3 a4 a5 a6 a7 v W
    · exact lines_2 a0 a1 a2 a3 a4 a5 a6 a7 v W
    · exact lines_3 a0 a1 a2 a3 a4 a5 a6 a7 v W
    · exact lines_4 a0 a1 a2 a3 a4 a5 a6 a7 v W
    · exact lines_5 a0 a1 a2 a3 a4 a5 a6 a7 v W
    · exact lines_6 a0 a1 a2 a3 a4 a5 a6 a7 v W
    · exact lines_7 a0 a1 a2 a3 a4 a5 a6 a7 v W
  · exact lines_out a0 a1 a2 a3 a4 a5 a6 a7 n v W hn

set_option maxRecDepth 100000 in
theorem wordLines_holds : Rows.WordLinesSaid :=
  OpenClaim.holds_of_wide 3 Try.f3 rfl rfl rfl rfl rfl rfl rfl ⟨rfl, rfl, rfl, rfl, rfl⟩ rfl rfl rfl rfl rfl (by kernel_rfl) Try.func3 (by kernel_rfl)
    (of_decide_eq_true (by kernel_rfl)) (by unfold Func.isWrapper; first | (rw [if_pos (by decide +kernel)]; kernel_rfl) | (rw [if_neg (by decide +kernel)]; exact ⟨rfl, rfl⟩))
    (fun os started H enc _ => law_ret (C := Try.checked) (tb := 4) own started (by kernel_rfl) Try.func3
      (ChangeSpec.witness6 (enc := enc) (C := Try.checked) false ⟨#[], #[.agg #[.int .u64 0, .int .u64 0, .int .u64 0, .int .u64 0, .int .u64 0, .int .u64 0, .int .u64 0, .int .u64 0], .int .i64 0, .int .u64 0], []⟩ 8 (by kernel_rfl) (by kernel_rfl) (by kernel_rfl) (by kernel_rfl))
      rfl wordLines_spec laidOut (by kernel_rfl) (by kernel_rfl) Try.underlying4 wordLines_call)
#print axioms wordLines_holds

theorem config_fields : ∀ (i : Nat) (f : Field), (match Try.prog.underlying 30 with | some (.struct fs) => fs | _ => #[])[i]? = some f → f.type = 3 ∧ f.offset = i := by
  rw [Try.underlying30]
  intro i f h
  match i, h with
  | 0, h | 1, h | 2, h | 3, h | 4, h | 5, h | 6, h => simp at h; subst h; exact ⟨rfl, rfl⟩
  | i + 7, h => simp at h

theorem wordShapes_spec {H : Type} : ∀ ds : List (DataW H), ds.length = Try.f4.params.toList.length → Rows.wordShapesSpec.fn H ds = { results := [.lit (.bool true)], args := ds } := by
  intro ds h
  rw [show Try.f4.params.toList.length = 1 by kernel_rfl] at h
  match ds, h with
  | [d1], _ => rfl

theorem wordShapes_call {H : Type} {enc : TypeId × Value → H} : ∀ (W : World) (base : Nat) (args : Array Value) (ds : List (DataW H)) (ps : List MemPlace),
      (∀ (j : Nat) t v, Try.f4.params[j]? = some t → args[j]? = some v → Value.okWide Try.checked.prog W .any base t v) →
      DataW.TrodAll enc Try.checked.prog W 0 (fun _ => true) true Try.f4.params.toList args.toList ds ps → (∀ x ∈ ps, x.block < W.heap.size) → W.noneFrozen ps →
      (DataW.weightsEach Try.checked.prog Try.f4.params.toList ds).all (· ≤ reachBytes) = true →
      Calls Try.checked.prog 4 args W fun e W' => e = .returned (.bool true) ∧ Below W.heap.size W W' := by
  intro W base args ds ps hval0 hA0 hlt hfz hsz
  have hval : ∀ (j : Nat) t v, Try.f4.params[j]? = some t → args[j]? = some v → Value.okWide Try.prog W .any base t v := hval0
  have hA : DataW.TrodAll enc Try.prog W 0 (fun _ => true) true Try.f4.params.toList args.toList ds ps := hA0
  rw [Try.params4] at hA hval
  obtain ⟨v0, vs0, d0, ds0, p0, q0, hargs, rfl, rfl, h0, r0⟩ := trodAll_cons hA
  obtain ⟨rfl, rfl, rfl⟩ := trodAll_nil r0
  obtain rfl : args = #[v0] := by cases args; simp_all
  clear hA0 hval0 hsz hfz hlt
  obtain ⟨ns, hl, rfl, _⟩ := open_int_struct Try.underlying30 Try.underlying3 (by kernel_rfl) (by kernel_rfl) config_fields (hval 0 30 _ rfl rfl) h0
  obtain ⟨c0, c1, c2, c3, c4, c5, c6, rfl⟩ := list7 ns hl
  exact shapes_any c0 c1 c2 c3 c4 c5 c6 W

set_option maxRecDepth 100000 in
theorem wordShapes_holds : Rows.WordShapesSaid :=
  OpenClaim.holds_of_wide 4 Try.f4 rfl rfl rfl rfl rfl rfl rfl ⟨rfl, rfl, rfl, rfl, rfl⟩ rfl rfl rfl rfl rfl (by kernel_rfl) Try.func4 (by kernel_rfl)
    (of_decide_eq_true (by kernel_rfl)) (by unfold Func.isWrapper; first | (rw [if_pos (by decide +kernel)]; kernel_rfl) | (rw [if_neg (by decide +kernel)]; exact ⟨rfl, rfl⟩))
    (fun os started H enc _ => law_ret (C := Try.checked) (tb := 4) own started (by kernel_rfl) Try.func4
      (ChangeSpec.witness6 (enc := enc) (C := Try.checked) false ⟨#[], #[.agg #[.int .i64 0, .int .i64 0, .int .i64 0, .int .i64 0, .int .i64 0, .int .i64 0, .int .i64 0]], []⟩ 8 (by kernel_rfl) (by kernel_rfl) (by kernel_rfl) (by kernel_rfl))
      rfl wordShapes_spec laidOut (by kernel_rfl) (by kernel_rfl) Try.underlying4 wordShapes_call)
#print axioms wordShapes_holds

theorem wordApart_spec {H : Type} : ∀ ds : List (DataW H), ds.length = Try.f6.params.toList.length → Rows.wordApartSpec.fn H ds = { results := [.lit (.bool true)], args := ds } := by
  intro ds h
  rw [show Try.f6.params.toList.length = 1 by kernel_rfl] at h
  match ds, h with
  | [d1], _ => rfl

theorem wordApart_call {H : Type} {enc : TypeId × Value → H} : ∀ (W : World) (base : Nat) (args : Array Value) (ds : List (DataW H)) (ps : List MemPlace),
      (∀ (j : Nat) t v, Try.f6.params[j]? = some t → args[j]? = some v → Value.okWide Try.checked.prog W .any base t v) →
      DataW.TrodAll enc Try.checked.prog W 0 (fun _ => true) true Try.f6.params.toList args.toList ds ps → (∀ x ∈ ps, x.block < W.heap.size) → W.noneFrozen ps →
      (DataW.weightsEach Try.checked.prog Try.f6.params.toList ds).all (· ≤ reachBytes) = true →
      Calls Try.checked.prog 6 args W fun e W' => e = .returned (.bool true) ∧ Below W.heap.size W W' := by
  intro W base args ds ps hval0 hA0 hlt hfz hsz
  have hval : ∀ (j : Nat) t v, Try.f6.params[j]? = some t → args[j]? = some v → Value.okWide Try.prog W .any base t v := hval0
  have hA : DataW.TrodAll enc Try.prog W 0 (fun _ => true) true Try.f6.params.toList args.toList ds ps := hA0
  rw [Try.params6] at hA hval
  obtain ⟨v0, vs0, d0, ds0, p0, q0, hargs, rfl, rfl, h0, r0⟩ := trodAll_cons hA
  obtain ⟨rfl, rfl, rfl⟩ := trodAll_nil r0
  obtain rfl : args = #[v0] := by cases args; simp_all
  clear hA0 hval0 hsz hfz hlt
  obtain ⟨ns, hl, rfl, hw⟩ := open_int_array Try.underlying38 Try.underlying3 (by kernel_rfl) (by kernel_rfl) (hval 0 38 _ rfl rfl) h0
  obtain ⟨n0, n1, n2, n3, rfl⟩ := list4 ns hl
  exact apart_any n0 n1 n2 n3 W (bounds_i64 (hw n0 (by simp))) (bounds_i64 (hw n1 (by simp))) (bounds_i64 (hw n2 (by simp))) (bounds_i64 (hw n3 (by simp)))

set_option maxRecDepth 100000 in
theorem wordApart_holds : Rows.WordApartSaid :=
  OpenClaim.holds_of_wide 6 Try.f6 rfl rfl rfl rfl rfl rfl rfl ⟨rfl, rfl, rfl, rfl, rfl⟩ rfl rfl rfl rfl rfl (by kernel_rfl) Try.func6 (by kernel_rfl)
    (of_decide_eq_true (by kernel_rfl)) (by unfold Func.isWrapper; first | (rw [if_pos (by decide +kernel)]; kernel_rfl) | (rw [if_neg (by decide +kernel)]; exact ⟨rfl, rfl⟩))
    (fun os started H enc _ => law_ret (C := Try.checked) (tb := 4) own started (by kernel_rfl) Try.func6
      (ChangeSpec.witness6 (enc := enc) (C := Try.checked) false ⟨#[], #[.agg #[.int .i64 0, .int .i64 0, .int .i64 0, .int .i64 0]], []⟩ 8 (by kernel_rfl) (by kernel_rfl) (by kernel_rfl) (by kernel_rfl))
      rfl wordApart_spec laidOut (by kernel_rfl) (by kernel_rfl) Try.underlying4 wordApart_call)
#print axioms wordApart_holds

theorem wordBack_spec {H : Type} : ∀ ds : List (DataW H), ds.length = Try.f5.params.toList.length → Rows.wordBackSpec.fn H ds = { results := [.lit (.bool true)], args := ds } := by
  intro ds h
  rw [show Try.f5.params.toList.length = 3 by kernel_rfl] at h
  match ds, h with
  | [d1, d2, d3], _ => rfl

theorem wordBack_call {H : Type} {enc : TypeId × Value → H} : ∀ (W : World) (base : Nat) (args : Array Value) (ds : List (DataW H)) (ps : List MemPlace),
      (∀ (j : Nat) t v, Try.f5.params[j]? = some t → args[j]? = some v → Value.okWide Try.checked.prog W .any base t v) →
      DataW.TrodAll enc Try.checked.prog W 0 (fun _ => true) true Try.f5.params.toList args.toList ds ps → (∀ x ∈ ps, x.block < W.heap.size) → W.noneFrozen ps →
      (DataW.weightsEach Try.checked.prog Try.f5.params.toList ds).all (· ≤ reachBytes) = true →
      Calls Try.checked.prog 5 args W fun e W' => e = .returned (.bool true) ∧ Below W.heap.size W W' := by
  intro W base args ds ps hval0 hA0 hlt hfz hsz
  have hval : ∀ (j : Nat) t v, Try.f5.params[j]? = some t → args[j]? = some v → Value.okWide Try.prog W .any base t v := hval0
  have hA : DataW.TrodAll enc Try.prog W 0 (fun _ => true) true Try.f5.params.toList args.toList ds ps := hA0
  rw [Try.params5] at hA hval
  obtain ⟨v0, vs0, d0, ds0, p0, q0, hargs, rfl, rfl, h0, r0⟩ := trodAll_cons hA
  obtain ⟨v1, vs1, d1, ds1, p1, q1, rfl, rfl, rfl, h1, r1⟩ := trodAll_cons r0
  obtain ⟨v2, vs2, d2, ds2, p2, q2, rfl, rfl, rfl, h2, r2⟩ := trodAll_cons r1
  obtain ⟨rfl, rfl, rfl⟩ := trodAll_nil r2
  obtain rfl : args = #[v0, v1, v2] := by cases args; simp_all
  clear hA0 hval0 hsz hfz hlt
  obtain ⟨l, rfl, rfl, rfl, lw⟩ := open_int Try.underlying3 (hval 0 3 _ rfl rfl) h0
  obtain ⟨n, rfl, rfl, rfl, nw⟩ := open_int Try.underlying3 (hval 1 3 _ rfl rfl) h1
  obtain ⟨ns, hl, rfl, _⟩ := open_int_array Try.underlying24 Try.underlying22 (by kernel_rfl) (by kernel_rfl) (hval 2 24 _ rfl rfl) h2
  obtain ⟨a0, a1, a2, a3, a4, a5, a6, a7, rfl⟩ := list8 ns hl
  have i0 := bounds_i64 lw
  have i1 := bounds_i64 nw
  obtain h | h | h | h | h | h | h | h := eight (n % 8) (by omega) (by omega)
  · exact back_0 l n _ a0 a1 a2 a3 a4 a5 a6 a7 W i0 i1 rfl h (by omega) (by omega)
  · exact back_1 l n _ a0 a1 a2 a3 a4 a5 a6 a7 W i0 i1 rfl h (by omega) (by omega)
  · exact back_2 l n _ a0 a1 a2 a3 a4 a5 a6 a7 W i0 i1 rfl h (by omega) (by omega)
  · exact back_3 l n _ a0 a1 a2 a3 a4 a5 a6 a7 W i0 i1 rfl h (by omega) (by omega)
  · exact back_4 l n _ a0 a1 a2 a3 a4 a5 a6 a7 W i0 i1 rfl h (by omega) (by omega)
  · exact back_5 l n _ a0 a1 a2 a3 a4 a5 a6 a7 W i0 i1 rfl h (by omega) (by omega)
  · exact back_6 l n _ a0 a1 a2 a3 a4 a5 a6 a7 W i0 i1 rfl h (by omega) (by omega)
  · exact back_7 l n _ a0 a1 a2 a3 a4 a5 a6 a7 W i0 i1 rfl h (by omega) (by omega)

set_option maxRecDepth 100000 in
theorem wordBack_holds : Rows.WordBackSaid :=
  OpenClaim.holds_of_wide 5 Try.f5 rfl rfl rfl rfl rfl rfl rfl ⟨rfl, rfl, rfl, rfl, rfl⟩ rfl rfl rfl rfl rfl (by kernel_rfl) Try.func5 (by kernel_rfl)
    (of_decide_eq_true (by kernel_rfl)) (by unfold Func.isWrapper; first | (rw [if_pos (by decide +kernel)]; kernel_rfl) | (rw [if_neg (by decide +kernel)]; exact ⟨rfl, rfl⟩))
    (fun os started H enc _ => law_ret (C := Try.checked) (tb := 4) own started (by kernel_rfl) Try.func5
      (ChangeSpec.witness6 (enc := enc) (C := Try.checked) false ⟨#[], #[.int .i64 0, .int .i64 0, .agg #[.int .u64 0, .int .u64 0, .int .u64 0, .int .u64 0, .int .u64 0, .int .u64 0, .int .u64 0, .int .u64 0]], []⟩ 8 (by kernel_rfl) (by kernel_rfl) (by kernel_rfl) (by kernel_rfl))
      rfl wordBack_spec laidOut (by kernel_rfl) (by kernel_rfl) Try.underlying4 wordBack_call)
#print axioms wordBack_holds
end Go.Proofs.Ytaidbofadmefkaa
