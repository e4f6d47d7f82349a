/- The statements of layer 17: for every events and every core. No condition. -/
import Derived.Test.YtfkiejhdfngmnaaRows
import Derived.Test.YtfkiejhdfngmnaaTcf
import Derived.Test.YtfkiejhdfngmnaaTcg
import Derived.Test.YtfkiejhdfngmnaaOpen
import Derived.Test.YtfkiejhdfngmnaaArgs
namespace Go.Proofs.Ytfkiejhdfngmnaa
open Go.ChangeShapes Go.WideShapes Go.ChangeAt Go.RowKit
set_option linter.unusedVariables false

theorem own : ownKnob Try.prog.godebug = none := by kernel_rfl
theorem laidOut : laidOutB Try.prog = true := by kernel_rfl

def kEv17 : List Kd := [.int .i64, .int .i64, .int .i64, .int .i64, .int .u64]
theorem kinds_events17 : kinds Try.prog 9 22 = some [.slice kEv17] := by kernel_rfl
theorem ev_cells17 {w : World} {cs : List Value} (h : AreKd w kEv17 cs) : ∃ x : Ev, cs = Ev.enc x := by
  obtain ⟨v1, c1, rfl, h1, hB⟩ := AreKd.head h
  obtain ⟨v2, c2, rfl, h2, hC⟩ := AreKd.head hB
  obtain ⟨v3, c3, rfl, h3, hD⟩ := AreKd.head hC
  obtain ⟨v4, c4, rfl, h4, hE⟩ := AreKd.head hD
  obtain ⟨v5, c5, rfl, h5, hF⟩ := AreKd.head hE
  obtain rfl : c5 = [] := List.eq_nil_of_length_eq_zero (by simpa using hF.1)
  simp only [IsKd] at h1 h2 h3 h4 h5
  obtain ⟨a, rfl, _⟩ := h1
  obtain ⟨b, rfl, _⟩ := h2
  obtain ⟨c, rfl, _⟩ := h3
  obtain ⟨d, rfl, _⟩ := h4
  obtain ⟨e, rfl, _⟩ := h5
  exact ⟨⟨a, b, c, d, e⟩, rfl⟩
theorem evs_of17 {w : World} : ∀ (n : Nat) (xs : List Value), xs.length = n * 5 → (∀ i, i < n → AreKd w kEv17 ((xs.drop (i * 5)).take 5)) → ∃ l : List Ev, l.length = n ∧ xs = cat Ev.enc l
  | 0, xs, h, _ => ⟨[], rfl, List.eq_nil_of_length_eq_zero (by omega)⟩
  | n + 1, xs, h, hk => by
    obtain ⟨x, he⟩ := ev_cells17 (hk 0 (by omega))
    obtain ⟨l, hl, hx⟩ := evs_of17 n (xs.drop 5) (by rw [List.length_drop]; omega) (fun i hi => by
      have := hk (i + 1) (by omega)
      rw [List.drop_drop]
      rwa [show 5 + i * 5 = (i + 1) * 5 by omega])
    refine ⟨x :: l, by simp [hl], ?_⟩
    rw [cat_cons, ← hx]
    rw [Nat.zero_mul, List.drop_zero] at he
    rw [← he, List.take_append_drop]
theorem to_below {e : Ending} {W w' : World} (h : e = .returned (.bool true) ∧ Chg [] W w') : e = .returned (.bool true) ∧ Below W.heap.size W w' := ⟨h.1, h.2.below (Nat.le_refl _) (by simp)⟩

theorem traceWhole_spec {H : Type} : ∀ ds : List (DataW H), ds.length = Try.f3.params.toList.length → Rows.traceWholeSpec.fn H ds = { results := [.lit (.bool true)], args := ds } := by
  intro ds h
  rw [show Try.f3.params.toList.length = 3 by kernel_rfl] at h
  match ds, h with
  | [d1, d2, d3], _ => rfl

theorem traceWhole_call {H : Type} {enc : TypeId × Value → H} : ∀ (W : World) (base : Nat) (args : Array Value) (ds : List (DataW H)) (ps : List MemPlace),
      (∀ (j : Nat) t v, Try.f3.params[j]? = some t → args[j]? = some v → Value.okWide Try.checked.prog W .any base t v) →
      DataW.TrodAll enc Try.checked.prog W 0 (fun _ => true) true Try.f3.params.toList args.toList ds ps → (∀ x ∈ ps, x.block < W.heap.size) → W.noneFrozen ps →
      (DataW.weightsEach Try.checked.prog Try.f3.params.toList ds).all (· ≤ reachBytes) = true →
      Calls Try.checked.prog 3 args W fun e W' => e = .returned (.bool true) ∧ Below W.heap.size W W' := by
  intro W base args ds ps hval0 hA0 hlt hfz hsz
  have hval : ∀ (j : Nat) t v, Try.f3.params[j]? = some t → args[j]? = some v → Value.okWide Try.prog W .any base t v := hval0
  have hA : DataW.TrodAll enc Try.prog W 0 (fun _ => true) true Try.f3.params.toList args.toList ds ps := hA0
  rw [Try.params3] at hA hval
  obtain ⟨v0, vs0, d0, ds0, p0, q0, hargs, rfl, rfl, h0, r0⟩ := trodAll_cons hA
  obtain ⟨v1, vs1, d1, ds1, p1, q1, rfl, rfl, rfl, h1, r1⟩ := trodAll_cons r0
  obtain ⟨v2, vs2, d2, ds2, p2, q2, rfl, rfl, rfl, h2, r2⟩ := trodAll_cons r1
  obtain ⟨rfl, rfl, rfl⟩ := trodAll_nil r2
  obtain rfl : args = #[v0, v1, v2] := by cases args; simp_all
  clear hA0 hval0 hsz hfz hlt
  obtain ⟨A, n, c, xs, rfl, hn, hc, hs, _, hk⟩ := (open_sl Try.underlying22 kinds_events17 (hval 0 22 _ rfl rfl) h0).rows
  obtain ⟨l, hl, rfl⟩ := evs_of17 n xs hs.1 hk
  obtain ⟨A', n', c', xs', rfl, hn', hc', hs', _, hk'⟩ := (open_sl Try.underlying22 kinds_events17 (hval 1 22 _ rfl rfl) h1).rows
  obtain ⟨l', hl', rfl⟩ := evs_of17 n' xs' hs'.1 hk'
  obtain ⟨co, rfl, rfl, rfl, cow⟩ := open_int Try.underlying3 (hval 2 3 _ rfl rfl) h2
  exact (tracewhole_any l l' co W hs hl hs' hl').mono fun e w' h => to_below h

set_option maxRecDepth 100000 in
theorem traceWhole_holds : Rows.TraceWholeSaid :=
  OpenClaim.holds_of_wide 3 Try.f3 rfl rfl rfl rfl rfl rfl rfl ⟨rfl, rfl, rfl, rfl, rfl⟩ rfl rfl rfl rfl rfl (by kernel_rfl) Try.func3 (by kernel_rfl)
    (of_decide_eq_true (by kernel_rfl)) (by unfold Func.isWrapper; first | (rw [if_pos (by decide +kernel)]; kernel_rfl) | (rw [if_neg (by decide +kernel)]; exact ⟨rfl, rfl⟩))
    (fun os started H enc _ => law_ret (C := Try.checked) (tb := 4) own started (by kernel_rfl) Try.func3
      (ChangeSpec.witness6 (enc := enc) (C := Try.checked) false ⟨#[], #[.slice none 0 0, .slice none 0 0, .int .i64 0], []⟩ 8 (by kernel_rfl) (by kernel_rfl) (by kernel_rfl) (by kernel_rfl))
      rfl traceWhole_spec laidOut (by kernel_rfl) (by kernel_rfl) Try.underlying4 traceWhole_call)
#print axioms traceWhole_holds

theorem traceOf_spec {H : Type} : ∀ ds : List (DataW H), ds.length = Try.f4.params.toList.length → Rows.traceOfSpec.fn H ds = { results := [.lit (.bool true)], args := ds } := by
  intro ds h
  rw [show Try.f4.params.toList.length = 2 by kernel_rfl] at h
  match ds, h with
  | [d1, d2], _ => rfl

theorem traceOf_call {H : Type} {enc : TypeId × Value → H} : ∀ (W : World) (base : Nat) (args : Array Value) (ds : List (DataW H)) (ps : List MemPlace),
      (∀ (j : Nat) t v, Try.f4.params[j]? = some t → args[j]? = some v → Value.okWide Try.checked.prog W .any base t v) →
      DataW.TrodAll enc Try.checked.prog W 0 (fun _ => true) true Try.f4.params.toList args.toList ds ps → (∀ x ∈ ps, x.block < W.heap.size) → W.noneFrozen ps →
      (DataW.weightsEach Try.checked.prog Try.f4.params.toList ds).all (· ≤ reachBytes) = true →
      Calls Try.checked.prog 4 args W fun e W' => e = .returned (.bool true) ∧ Below W.heap.size W W' := by
  intro W base args ds ps hval0 hA0 hlt hfz hsz
  have hval : ∀ (j : Nat) t v, Try.f4.params[j]? = some t → args[j]? = some v → Value.okWide Try.prog W .any base t v := hval0
  have hA : DataW.TrodAll enc Try.prog W 0 (fun _ => true) true Try.f4.params.toList args.toList ds ps := hA0
  rw [Try.params4] at hA hval
  obtain ⟨v0, vs0, d0, ds0, p0, q0, hargs, rfl, rfl, h0, r0⟩ := trodAll_cons hA
  obtain ⟨v1, vs1, d1, ds1, p1, q1, rfl, rfl, rfl, h1, r1⟩ := trodAll_cons r0
  obtain ⟨rfl, rfl, rfl⟩ := trodAll_nil r1
  obtain rfl : args = #[v0, v1] := by cases args; simp_all
  clear hA0 hval0 hsz hfz hlt
  obtain ⟨A, n, c, xs, rfl, hn, hc, hs, _, hk⟩ := (open_sl Try.underlying22 kinds_events17 (hval 0 22 _ rfl rfl) h0).rows
  obtain ⟨l, hl, rfl⟩ := evs_of17 n xs hs.1 hk
  obtain ⟨co, rfl, rfl, rfl, cow⟩ := open_int Try.underlying3 (hval 1 3 _ rfl rfl) h1
  exact (traceof_any l co W hs hl).mono fun e w' h => to_below h

set_option maxRecDepth 100000 in
theorem traceOf_holds : Rows.TraceOfSaid :=
  OpenClaim.holds_of_wide 4 Try.f4 rfl rfl rfl rfl rfl rfl rfl ⟨rfl, rfl, rfl, rfl, rfl⟩ rfl rfl rfl rfl rfl (by kernel_rfl) Try.func4 (by kernel_rfl)
    (of_decide_eq_true (by kernel_rfl)) (by unfold Func.isWrapper; first | (rw [if_pos (by decide +kernel)]; kernel_rfl) | (rw [if_neg (by decide +kernel)]; exact ⟨rfl, rfl⟩))
    (fun os started H enc _ => law_ret (C := Try.checked) (tb := 4) own started (by kernel_rfl) Try.func4
      (ChangeSpec.witness6 (enc := enc) (C := Try.checked) false ⟨#[], #[.slice none 0 0, .int .i64 0], []⟩ 8 (by kernel_rfl) (by kernel_rfl) (by kernel_rfl) (by kernel_rfl))
      rfl traceOf_spec laidOut (by kernel_rfl) (by kernel_rfl) Try.underlying4 traceOf_call)
#print axioms traceOf_holds
end Go.Proofs.Ytfkiejhdfngmnaa
