/- The statements of layer 3: for every steps, every entries, every drains. No condition. -/
import Derived.Test.YtaignekkhfjicaaRows
import Derived.Test.YtaignekkhfjicaaWpqe
import Derived.Test.YtaignekkhfjicaaWpqh
import Derived.Test.YtaignekkhfjicaaArgs
namespace Go.Proofs.Ytaignekkhfjicaa
open Go.ChangeShapes Go.WideShapes Go.ChangeAt Go.RowKit
set_option linter.unusedVariables false

theorem own : ownKnob Try.prog.godebug = none := by kernel_rfl
theorem laidOut : laidOutB Try.prog = true := by kernel_rfl

theorem kinds_steps : kinds Try.prog 9 23 = some [.slice kQStep] := by kernel_rfl
theorem kinds_step : kinds Try.prog 9 42 = some kQStep := by kernel_rfl
theorem kinds_bytes : kinds Try.prog 9 64 = some [.slice [.int .u8]] := by kernel_rfl
theorem kinds_three : kinds Try.prog 9 22 = some (List.replicate 3 (.int .i64)) := by kernel_rfl
theorem to_below {e : Ending} {W w' : World} (h : e = .returned (.bool true) ∧ Chg [] W w') : e = .returned (.bool true) ∧ Below W.heap.size W w' := ⟨h.1, h.2.below (Nat.le_refl _) (by simp)⟩
theorem bytes_in {xs : List Int} (h : ∀ x ∈ xs, (Lit.int .u8 x).wf = true) : ∀ x ∈ xs, 0 ≤ x ∧ x ≤ 255 := fun x hx => bounds_u8 (h x hx)
theorem list3 {α : Type} (l : List α) (h : l.length = 3) : ∃ a b c, l = [a, b, c] := by
  match l, h with
  | [a, b, c], _ => exact ⟨a, b, c, rfl⟩

theorem wpqPlays_spec {H : Type} : ∀ ds : List (DataW H), ds.length = Try.f3.params.toList.length → Rows.wpqPlaysSpec.fn H ds = { results := [.lit (.bool true)], args := ds } := by
  intro ds h
  rw [show Try.f3.params.toList.length = 2 by kernel_rfl] at h
  match ds, h with
  | [d1, d2], _ => rfl

theorem wpqPlays_call {H : Type} {enc : TypeId × Value → H} : ∀ (W : World) (base : Nat) (args : Array Value) (ds : List (DataW H)) (ps : List MemPlace),
      (∀ (j : Nat) t v, Try.f3.params[j]? = some t → args[j]? = some v → Value.okWide Try.checked.prog W .any base t v) →
      DataW.TrodAll enc Try.checked.prog W 0 (fun _ => true) true Try.f3.params.toList args.toList ds ps → (∀ x ∈ ps, x.block < W.heap.size) → W.noneFrozen ps →
      (DataW.weightsEach Try.checked.prog Try.f3.params.toList ds).all (· ≤ reachBytes) = true →
      Calls Try.checked.prog 3 args W fun e W' => e = .returned (.bool true) ∧ Below W.heap.size W W' := by
  intro W base args ds ps hval0 hA0 hlt hfz hsz
  have hval : ∀ (j : Nat) t v, Try.f3.params[j]? = some t → args[j]? = some v → Value.okWide Try.prog W .any base t v := hval0
  have hA : DataW.TrodAll enc Try.prog W 0 (fun _ => true) true Try.f3.params.toList args.toList ds ps := hA0
  rw [Try.params3] at hA hval
  obtain ⟨v0, vs0, d0, ds0, p0, q0, hargs, rfl, rfl, h0, r0⟩ := trodAll_cons hA
  obtain ⟨v1, vs1, d1, ds1, p1, q1, rfl, rfl, rfl, h1, r1⟩ := trodAll_cons r0
  obtain ⟨rfl, rfl, rfl⟩ := trodAll_nil r1
  obtain rfl : args = #[v0, v1] := by cases args; simp_all
  clear hA0 hval0 hsz hfz hlt
  obtain ⟨cs, rfl, hk0⟩ := open_row (by rw [Try.underlying22]) kinds_three (hval 0 22 _ rfl rfl) h0
  obtain ⟨ns, hl, rfl, _⟩ := AreKd.ints hk0
  obtain ⟨a, b, d, rfl⟩ := list3 ns hl
  obtain ⟨A, n, c, xs, rfl, hn, hc, hs, _, hk⟩ := (open_sl Try.underlying23 kinds_steps (hval 1 23 _ rfl rfl) h1).rows
  exact (qplays_any a b d A n c xs W hs (Nat.le_trans hn hc) hk).mono fun e w' h => to_below h

set_option maxRecDepth 100000 in
theorem wpqPlays_holds : Rows.WpqPlaysSaid :=
  OpenClaim.holds_of_wide 3 Try.f3 rfl rfl rfl rfl rfl rfl rfl ⟨rfl, rfl, rfl, rfl, rfl⟩ rfl rfl rfl rfl rfl (by kernel_rfl) Try.func3 (by kernel_rfl)
    (of_decide_eq_true (by kernel_rfl)) (by unfold Func.isWrapper; first | (rw [if_pos (by decide +kernel)]; kernel_rfl) | (rw [if_neg (by decide +kernel)]; exact ⟨rfl, rfl⟩))
    (fun os started H enc _ => law_ret (C := Try.checked) (tb := 4) own started (by kernel_rfl) Try.func3
      (ChangeSpec.witness6 (enc := enc) (C := Try.checked) false ⟨#[], #[.agg #[.int .i64 0, .int .i64 0, .int .i64 0], .slice none 0 0], []⟩ 8 (by kernel_rfl) (by kernel_rfl) (by kernel_rfl) (by kernel_rfl))
      rfl wpqPlays_spec laidOut (by kernel_rfl) (by kernel_rfl) Try.underlying4 wpqPlays_call)
#print axioms wpqPlays_holds

theorem wpqDrains_spec {H : Type} : ∀ ds : List (DataW H), ds.length = Try.f4.params.toList.length → Rows.wpqDrainsSpec.fn H ds = { results := [.lit (.bool true)], args := ds } := by
  intro ds h
  rw [show Try.f4.params.toList.length = 2 by kernel_rfl] at h
  match ds, h with
  | [d1, d2], _ => rfl

theorem wpqDrains_call {H : Type} {enc : TypeId × Value → H} : ∀ (W : World) (base : Nat) (args : Array Value) (ds : List (DataW H)) (ps : List MemPlace),
      (∀ (j : Nat) t v, Try.f4.params[j]? = some t → args[j]? = some v → Value.okWide Try.checked.prog W .any base t v) →
      DataW.TrodAll enc Try.checked.prog W 0 (fun _ => true) true Try.f4.params.toList args.toList ds ps → (∀ x ∈ ps, x.block < W.heap.size) → W.noneFrozen ps →
      (DataW.weightsEach Try.checked.prog Try.f4.params.toList ds).all (· ≤ reachBytes) = true →
      Calls Try.checked.prog 4 args W fun e W' => e = .returned (.bool true) ∧ Below W.heap.size W W' := by
  intro W base args ds ps hval0 hA0 hlt hfz hsz
  have hval : ∀ (j : Nat) t v, Try.f4.params[j]? = some t → args[j]? = some v → Value.okWide Try.prog W .any base t v := hval0
  have hA : DataW.TrodAll enc Try.prog W 0 (fun _ => true) true Try.f4.params.toList args.toList ds ps := hA0
  rw [Try.params4] at hA hval
  obtain ⟨v0, vs0, d0, ds0, p0, q0, hargs, rfl, rfl, h0, r0⟩ := trodAll_cons hA
  obtain ⟨v1, vs1, d1, ds1, p1, q1, rfl, rfl, rfl, h1, r1⟩ := trodAll_cons r0
  obtain ⟨rfl, rfl, rfl⟩ := trodAll_nil r1
  obtain rfl : args = #[v0, v1] := by cases args; simp_all
  clear hA0 hval0 hsz hfz hlt
  obtain ⟨A, n, c, xs, rfl, hn, hc, hs, _, hk⟩ := (open_sl Try.underlying23 kinds_steps (hval 0 23 _ rfl rfl) h0).rows
  obtain ⟨B, m, c2, ds, rfl, hm, hc2, hd, hw⟩ := (open_sl Try.underlying64 kinds_bytes (hval 1 64 _ rfl rfl) h1).ints
  exact (qdrains_any A B n m c c2 xs ds W hs hd (Nat.le_trans hn hc) (Nat.le_trans hm hc2) hk (bytes_in hw)).mono fun e w' h => to_below h

set_option maxRecDepth 100000 in
theorem wpqDrains_holds : Rows.WpqDrainsSaid :=
  OpenClaim.holds_of_wide 4 Try.f4 rfl rfl rfl rfl rfl rfl rfl ⟨rfl, rfl, rfl, rfl, rfl⟩ rfl rfl rfl rfl rfl (by kernel_rfl) Try.func4 (by kernel_rfl)
    (of_decide_eq_true (by kernel_rfl)) (by unfold Func.isWrapper; first | (rw [if_pos (by decide +kernel)]; kernel_rfl) | (rw [if_neg (by decide +kernel)]; exact ⟨rfl, rfl⟩))
    (fun os started H enc _ => law_ret (C := Try.checked) (tb := 4) own started (by kernel_rfl) Try.func4
      (ChangeSpec.witness6 (enc := enc) (C := Try.checked) false ⟨#[], #[.slice none 0 0, .slice none 0 0], []⟩ 8 (by kernel_rfl) (by kernel_rfl) (by kernel_rfl) (by kernel_rfl))
      rfl wpqDrains_spec laidOut (by kernel_rfl) (by kernel_rfl) Try.underlying4 wpqDrains_call)
#print axioms wpqDrains_holds

theorem wpqNone_spec {H : Type} : ∀ ds : List (DataW H), ds.length = Try.f5.params.toList.length → Rows.wpqNoneSpec.fn H ds = { results := [.lit (.bool true)], args := ds } := by
  intro ds h
  rw [show Try.f5.params.toList.length = 2 by kernel_rfl] at h
  match ds, h with
  | [d1, d2], _ => rfl

theorem wpqNone_call {H : Type} {enc : TypeId × Value → H} : ∀ (W : World) (base : Nat) (args : Array Value) (ds : List (DataW H)) (ps : List MemPlace),
      (∀ (j : Nat) t v, Try.f5.params[j]? = some t → args[j]? = some v → Value.okWide Try.checked.prog W .any base t v) →
      DataW.TrodAll enc Try.checked.prog W 0 (fun _ => true) true Try.f5.params.toList args.toList ds ps → (∀ x ∈ ps, x.block < W.heap.size) → W.noneFrozen ps →
      (DataW.weightsEach Try.checked.prog Try.f5.params.toList ds).all (· ≤ reachBytes) = true →
      Calls Try.checked.prog 5 args W fun e W' => e = .returned (.bool true) ∧ Below W.heap.size W W' := by
  intro W base args ds ps hval0 hA0 hlt hfz hsz
  have hval : ∀ (j : Nat) t v, Try.f5.params[j]? = some t → args[j]? = some v → Value.okWide Try.prog W .any base t v := hval0
  have hA : DataW.TrodAll enc Try.prog W 0 (fun _ => true) true Try.f5.params.toList args.toList ds ps := hA0
  rw [Try.params5] at hA hval
  obtain ⟨v0, vs0, d0, ds0, p0, q0, hargs, rfl, rfl, h0, r0⟩ := trodAll_cons hA
  obtain ⟨v1, vs1, d1, ds1, p1, q1, rfl, rfl, rfl, h1, r1⟩ := trodAll_cons r0
  obtain ⟨rfl, rfl, rfl⟩ := trodAll_nil r1
  obtain rfl : args = #[v0, v1] := by cases args; simp_all
  clear hA0 hval0 hsz hfz hlt
  obtain ⟨cs, rfl, hk⟩ := open_row (by rw [Try.underlying42]) kinds_step (hval 0 42 _ rfl rfl) h0
  obtain ⟨kd, li, l, hl8, rfl⟩ := qstep_cells hk
  obtain ⟨a0, a1, a2, a3, a4, a5, a6, a7, rfl⟩ := list8 l hl8
  obtain ⟨r, rfl, rfl, rfl, rw⟩ := open_int Try.underlying3 (hval 1 3 _ rfl rfl) h1
  exact (qnone_any kd li a0 a1 a2 a3 a4 a5 a6 a7 r W).mono fun e w' h => to_below h

set_option maxRecDepth 100000 in
theorem wpqNone_holds : Rows.WpqNoneSaid :=
  OpenClaim.holds_of_wide 5 Try.f5 rfl rfl rfl rfl rfl rfl rfl ⟨rfl, rfl, rfl, rfl, rfl⟩ rfl rfl rfl rfl rfl (by kernel_rfl) Try.func5 (by kernel_rfl)
    (of_decide_eq_true (by kernel_rfl)) (by unfold Func.isWrapper; first | (rw [if_pos (by decide +kernel)]; kernel_rfl) | (rw [if_neg (by decide +kernel)]; exact ⟨rfl, rfl⟩))
    (fun os started H enc _ => law_ret (C := Try.checked) (tb := 4) own started (by kernel_rfl) Try.func5
      (ChangeSpec.witness6 (enc := enc) (C := Try.checked) false ⟨#[], #[.agg #[.int .i64 0, .int .i64 0, .int .u64 0, .int .u64 0, .int .u64 0, .int .u64 0, .int .u64 0, .int .u64 0, .int .u64 0, .int .u64 0], .int .i64 0], []⟩ 8 (by kernel_rfl) (by kernel_rfl) (by kernel_rfl) (by kernel_rfl))
      rfl wpqNone_spec laidOut (by kernel_rfl) (by kernel_rfl) Try.underlying4 wpqNone_call)
#print axioms wpqNone_holds

theorem wpqOrder_spec {H : Type} : ∀ ds : List (DataW H), ds.length = Try.f6.params.toList.length → Rows.wpqOrderSpec.fn H ds = { results := [.lit (.bool true)], args := ds } := by
  intro ds h
  rw [show Try.f6.params.toList.length = 2 by kernel_rfl] at h
  match ds, h with
  | [d1, d2], _ => rfl

theorem wpqOrder_call {H : Type} {enc : TypeId × Value → H} : ∀ (W : World) (base : Nat) (args : Array Value) (ds : List (DataW H)) (ps : List MemPlace),
      (∀ (j : Nat) t v, Try.f6.params[j]? = some t → args[j]? = some v → Value.okWide Try.checked.prog W .any base t v) →
      DataW.TrodAll enc Try.checked.prog W 0 (fun _ => true) true Try.f6.params.toList args.toList ds ps → (∀ x ∈ ps, x.block < W.heap.size) → W.noneFrozen ps →
      (DataW.weightsEach Try.checked.prog Try.f6.params.toList ds).all (· ≤ reachBytes) = true →
      Calls Try.checked.prog 6 args W fun e W' => e = .returned (.bool true) ∧ Below W.heap.size W W' := by
  intro W base args ds ps hval0 hA0 hlt hfz hsz
  have hval : ∀ (j : Nat) t v, Try.f6.params[j]? = some t → args[j]? = some v → Value.okWide Try.prog W .any base t v := hval0
  have hA : DataW.TrodAll enc Try.prog W 0 (fun _ => true) true Try.f6.params.toList args.toList ds ps := hA0
  rw [Try.params6] at hA hval
  obtain ⟨v0, vs0, d0, ds0, p0, q0, hargs, rfl, rfl, h0, r0⟩ := trodAll_cons hA
  obtain ⟨v1, vs1, d1, ds1, p1, q1, rfl, rfl, rfl, h1, r1⟩ := trodAll_cons r0
  obtain ⟨rfl, rfl, rfl⟩ := trodAll_nil r1
  obtain rfl : args = #[v0, v1] := by cases args; simp_all
  clear hA0 hval0 hsz hfz hlt
  obtain ⟨A, n, c, xs, rfl, hn, hc, hs, hv⟩ := (open_sl Try.underlying64 kinds_bytes (hval 0 64 _ rfl rfl) h0).ints
  obtain ⟨B, m, c2, ds, rfl, hm, hc2, hd, hw⟩ := (open_sl Try.underlying64 kinds_bytes (hval 1 64 _ rfl rfl) h1).ints
  exact (qorder_any A B n m c c2 xs ds W hs hd (Nat.le_trans hn hc) (Nat.le_trans hm hc2) (bytes_in hv) (bytes_in hw)).mono fun e w' h => to_below h

set_option maxRecDepth 100000 in
theorem wpqOrder_holds : Rows.WpqOrderSaid :=
  OpenClaim.holds_of_wide 6 Try.f6 rfl rfl rfl rfl rfl rfl rfl ⟨rfl, rfl, rfl, rfl, rfl⟩ rfl rfl rfl rfl rfl (by kernel_rfl) Try.func6 (by kernel_rfl)
    (of_decide_eq_true (by kernel_rfl)) (by unfold Func.isWrapper; first | (rw [if_pos (by decide +kernel)]; kernel_rfl) | (rw [if_neg (by decide +kernel)]; exact ⟨rfl, rfl⟩))
    (fun os started H enc _ => law_ret (C := Try.checked) (tb := 4) own started (by kernel_rfl) Try.func6
      (ChangeSpec.witness6 (enc := enc) (C := Try.checked) false ⟨#[], #[.slice none 0 0, .slice none 0 0], []⟩ 8 (by kernel_rfl) (by kernel_rfl) (by kernel_rfl) (by kernel_rfl))
      rfl wpqOrder_spec laidOut (by kernel_rfl) (by kernel_rfl) Try.underlying4 wpqOrder_call)
#print axioms wpqOrder_holds

theorem wpqRoom_spec {H : Type} : ∀ ds : List (DataW H), ds.length = Try.f7.params.toList.length → Rows.wpqRoomSpec.fn H ds = { results := [.lit (.bool true)], args := ds } := by
  intro ds h
  rw [show Try.f7.params.toList.length = 2 by kernel_rfl] at h
  match ds, h with
  | [d1, d2], _ => rfl

theorem wpqRoom_call {H : Type} {enc : TypeId × Value → H} : ∀ (W : World) (base : Nat) (args : Array Value) (ds : List (DataW H)) (ps : List MemPlace),
      (∀ (j : Nat) t v, Try.f7.params[j]? = some t → args[j]? = some v → Value.okWide Try.checked.prog W .any base t v) →
      DataW.TrodAll enc Try.checked.prog W 0 (fun _ => true) true Try.f7.params.toList args.toList ds ps → (∀ x ∈ ps, x.block < W.heap.size) → W.noneFrozen ps →
      (DataW.weightsEach Try.checked.prog Try.f7.params.toList ds).all (· ≤ reachBytes) = true →
      Calls Try.checked.prog 7 args W fun e W' => e = .returned (.bool true) ∧ Below W.heap.size W W' := by
  intro W base args ds ps hval0 hA0 hlt hfz hsz
  have hval : ∀ (j : Nat) t v, Try.f7.params[j]? = some t → args[j]? = some v → Value.okWide Try.prog W .any base t v := hval0
  have hA : DataW.TrodAll enc Try.prog W 0 (fun _ => true) true Try.f7.params.toList args.toList ds ps := hA0
  rw [Try.params7] at hA hval
  obtain ⟨v0, vs0, d0, ds0, p0, q0, hargs, rfl, rfl, h0, r0⟩ := trodAll_cons hA
  obtain ⟨v1, vs1, d1, ds1, p1, q1, rfl, rfl, rfl, h1, r1⟩ := trodAll_cons r0
  obtain ⟨rfl, rfl, rfl⟩ := trodAll_nil r1
  obtain rfl : args = #[v0, v1] := by cases args; simp_all
  clear hA0 hval0 hsz hfz hlt
  obtain ⟨n, rfl, rfl, rfl, nw⟩ := open_int Try.underlying5 (hval 0 5 _ rfl rfl) h0
  obtain ⟨v, rfl, rfl, rfl, vw⟩ := open_int Try.underlying5 (hval 1 5 _ rfl rfl) h1
  have b0 := bounds_u8 nw
  have b1 := bounds_u8 vw
  exact (qroom_any n v b0.1 b0.2 b1.1 b1.2 W).mono fun e w' h => to_below h

set_option maxRecDepth 100000 in
theorem wpqRoom_holds : Rows.WpqRoomSaid :=
  OpenClaim.holds_of_wide 7 Try.f7 rfl rfl rfl rfl rfl rfl rfl ⟨rfl, rfl, rfl, rfl, rfl⟩ rfl rfl rfl rfl rfl (by kernel_rfl) Try.func7 (by kernel_rfl)
    (of_decide_eq_true (by kernel_rfl)) (by unfold Func.isWrapper; first | (rw [if_pos (by decide +kernel)]; kernel_rfl) | (rw [if_neg (by decide +kernel)]; exact ⟨rfl, rfl⟩))
    (fun os started H enc _ => law_ret (C := Try.checked) (tb := 4) own started (by kernel_rfl) Try.func7
      (ChangeSpec.witness6 (enc := enc) (C := Try.checked) false ⟨#[], #[.int .u8 0, .int .u8 0], []⟩ 8 (by kernel_rfl) (by kernel_rfl) (by kernel_rfl) (by kernel_rfl))
      rfl wpqRoom_spec laidOut (by kernel_rfl) (by kernel_rfl) Try.underlying4 wpqRoom_call)
#print axioms wpqRoom_holds
end Go.Proofs.Ytaignekkhfjicaa
