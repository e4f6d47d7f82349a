/- The document's own answer, whether a configuration is good. -/
import Derived.Test.YtgpmhbkpagfjaaaWordb
import Derived.BigGuard
import Derived.BigGuardPart
namespace Go.Proofs.Ytgpmhbkpagfjaaa
open Go.RowKit
set_option linter.unusedVariables false
set_option maxRecDepth 100000
set_option maxHeartbeats 2000000 in
theorem rgood_0 (c0 c1 c2 c3 c4 c5 c6 : Int) (w : World) (h : ¬ (1 ≤ c0 ∧ c0 ≤ 8)) : Calls Try.prog 7 #[.agg #[.int .i64 c0, .int .i64 c1, .int .i64 c2, .int .i64 c3, .int .i64 c4, .int .i64 c5, .int .i64 c6]] w fun e w' => e = .returned (.bool false) ∧ w' = w.alloc (.cells #[.int .i64 c0, .int .i64 c1, .int .i64 c2, .int .i64 c3, .int .i64 c4, .int .i64 c5, .int .i64 c6] 23) := by
  by_cases h7 : 1 ≤ c0
  · have h8 : decide (c0 ≤ 8) = false := by simp; omega
    clear h
    go_enter Try.func7, Try.ntmps7
    dsimp only [List.append]
    go_wp2
    go_ret
    exact ⟨rfl, rfl⟩
  · have h8 : decide (1 ≤ c0) = false := by simp; omega
    clear h h7
    go_enter Try.func7, Try.ntmps7
    dsimp only [List.append]
    go_wp2
    go_ret
    exact ⟨rfl, rfl⟩
set_option maxHeartbeats 2000000 in
theorem rgood_1 (c0 c1 c2 c3 c4 c5 c6 : Int) (w : World) (p0 : 1 ≤ c0) (q0 : c0 ≤ 8) (h : ¬ (2 ≤ c1 ∧ c1 ≤ 64)) : Calls Try.prog 7 #[.agg #[.int .i64 c0, .int .i64 c1, .int .i64 c2, .int .i64 c3, .int .i64 c4, .int .i64 c5, .int .i64 c6]] w fun e w' => e = .returned (.bool false) ∧ w' = w.alloc (.cells #[.int .i64 c0, .int .i64 c1, .int .i64 c2, .int .i64 c3, .int .i64 c4, .int .i64 c5, .int .i64 c6] 23) := by
  by_cases h7 : 2 ≤ c1
  · have h8 : decide (c1 ≤ 64) = false := by simp; omega
    clear h
    go_enter Try.func7, Try.ntmps7
    dsimp only [List.append]
    go_wp2
    go_ret
    exact ⟨rfl, rfl⟩
  · have h8 : decide (2 ≤ c1) = false := by simp; omega
    clear h h7
    go_enter Try.func7, Try.ntmps7
    dsimp only [List.append]
    go_wp2
    go_ret
    exact ⟨rfl, rfl⟩
set_option maxHeartbeats 2000000 in
theorem rgood_2 (c0 c1 c2 c3 c4 c5 c6 : Int) (w : World) (p0 : 1 ≤ c0) (q0 : c0 ≤ 8) (p1 : 2 ≤ c1) (q1 : c1 ≤ 64) (h : ¬ (1 ≤ c2 ∧ c2 ≤ c1 - 1)) : Calls Try.prog 7 #[.agg #[.int .i64 c0, .int .i64 c1, .int .i64 c2, .int .i64 c3, .int .i64 c4, .int .i64 c5, .int .i64 c6]] w fun e w' => e = .returned (.bool false) ∧ w' = w.alloc (.cells #[.int .i64 c0, .int .i64 c1, .int .i64 c2, .int .i64 c3, .int .i64 c4, .int .i64 c5, .int .i64 c6] 23) := by
  by_cases h7 : 1 ≤ c2
  · have h8 : decide (c2 < c1) = false := by simp; omega
    clear h
    go_enter Try.func7, Try.ntmps7
    dsimp only [List.append]
    go_wp2
    go_ret
    exact ⟨rfl, rfl⟩
  · have h8 : decide (1 ≤ c2) = false := by simp; omega
    clear h h7
    go_enter Try.func7, Try.ntmps7
    dsimp only [List.append]
    go_wp2
    go_ret
    exact ⟨rfl, rfl⟩
set_option maxHeartbeats 2000000 in
theorem wdrgood_3 (c0 c1 c2 c3 c4 c5 c6 : Int) (w : World) (p0 : 1 ≤ c0) (q0 : c0 ≤ 8) (p1 : 2 ≤ c1) (q1 : c1 ≤ 64) (p2 : 1 ≤ c2) (q2 : c2 ≤ c1 - 1) (h : ¬ (c3 = 1 ∨ c3 = 2 ∨ c3 = 4 ∨ c3 = 8)) : Calls Try.prog 7 #[.agg #[.int .i64 c0, .int .i64 c1, .int .i64 c2, .int .i64 c3, .int .i64 c4, .int .i64 c5, .int .i64 c6]] w fun e w' => e = .returned (.bool false) ∧ w' = w.alloc (.cells #[.int .i64 c0, .int .i64 c1, .int .i64 c2, .int .i64 c3, .int .i64 c4, .int .i64 c5, .int .i64 c6] 23) := by
  have q2' : c2 < c1 := by omega
  clear q2
  have e1 : (c3 == 1) = false := by simp; omega
  have e2 : (c3 == 2) = false := by simp; omega
  have e4 : (c3 == 4) = false := by simp; omega
  have e8 : (c3 == 8) = false := by simp; omega
  clear h
  go_enter Try.func7, Try.ntmps7
  dsimp only [List.append]
  go_wp2
  go_ret
  exact ⟨rfl, rfl⟩
set_option maxHeartbeats 2000000 in
theorem rgood_4 (c0 c1 c2 c3 c4 c5 c6 : Int) (w : World) (p0 : 1 ≤ c0) (q0 : c0 ≤ 8) (p1 : 2 ≤ c1) (q1 : c1 ≤ 64) (p2 : 1 ≤ c2) (q2 : c2 ≤ c1 - 1) (s : c3 = 1 ∨ c3 = 2 ∨ c3 = 4 ∨ c3 = 8) (h : ¬ (1 ≤ c4 ∧ c4 ≤ 8)) : Calls Try.prog 7 #[.agg #[.int .i64 c0, .int .i64 c1, .int .i64 c2, .int .i64 c3, .int .i64 c4, .int .i64 c5, .int .i64 c6]] w fun e w' => e = .returned (.bool false) ∧ w' = w.alloc (.cells #[.int .i64 c0, .int .i64 c1, .int .i64 c2, .int .i64 c3, .int .i64 c4, .int .i64 c5, .int .i64 c6] 23) := by
  have q2' : c2 < c1 := by omega
  clear q2
  obtain rfl | rfl | rfl | rfl := s
  all_goals
    by_cases h7 : 1 ≤ c4
    · have h8 : decide (c4 ≤ 8) = false := by simp; omega
      clear h
      go_enter Try.func7, Try.ntmps7
      dsimp only [List.append]
      go_wp2
      go_ret
      exact ⟨rfl, rfl⟩
    · have h8 : decide (1 ≤ c4) = false := by simp; omega
      clear h h7
      go_enter Try.func7, Try.ntmps7
      dsimp only [List.append]
      go_wp2
      go_ret
      exact ⟨rfl, rfl⟩
set_option maxHeartbeats 2000000 in
theorem rgood_5 (c0 c1 c2 c3 c4 c5 c6 : Int) (w : World) (p0 : 1 ≤ c0) (q0 : c0 ≤ 8) (p1 : 2 ≤ c1) (q1 : c1 ≤ 64) (p2 : 1 ≤ c2) (q2 : c2 ≤ c1 - 1) (s : c3 = 1 ∨ c3 = 2 ∨ c3 = 4 ∨ c3 = 8) (p4 : 1 ≤ c4) (q4 : c4 ≤ 8) (h : ¬ (1 ≤ c5 ∧ c5 ≤ 16)) : Calls Try.prog 7 #[.agg #[.int .i64 c0, .int .i64 c1, .int .i64 c2, .int .i64 c3, .int .i64 c4, .int .i64 c5, .int .i64 c6]] w fun e w' => e = .returned (.bool false) ∧ w' = w.alloc (.cells #[.int .i64 c0, .int .i64 c1, .int .i64 c2, .int .i64 c3, .int .i64 c4, .int .i64 c5, .int .i64 c6] 23) := by
  have q2' : c2 < c1 := by omega
  clear q2
  obtain rfl | rfl | rfl | rfl := s
  all_goals
    by_cases h7 : 1 ≤ c5
    · have h8 : decide (c5 ≤ 16) = false := by simp; omega
      clear h
      go_enter Try.func7, Try.ntmps7
      dsimp only [List.append]
      go_wp2
      go_ret
      exact ⟨rfl, rfl⟩
    · have h8 : decide (1 ≤ c5) = false := by simp; omega
      clear h h7
      go_enter Try.func7, Try.ntmps7
      dsimp only [List.append]
      go_wp2
      go_ret
      exact ⟨rfl, rfl⟩
set_option maxHeartbeats 2000000 in
theorem wdrgood_6 (c0 c1 c2 c3 c4 c5 c6 : Int) (w : World) (p0 : 1 ≤ c0) (q0 : c0 ≤ 8) (p1 : 2 ≤ c1) (q1 : c1 ≤ 64) (p2 : 1 ≤ c2) (q2 : c2 ≤ c1 - 1) (s : c3 = 1 ∨ c3 = 2 ∨ c3 = 4 ∨ c3 = 8) (p4 : 1 ≤ c4) (q4 : c4 ≤ 8) (p5 : 1 ≤ c5) (q5 : c5 ≤ 16) (h : ¬ (1 ≤ c6 ∧ c6 ≤ 16)) : Calls Try.prog 7 #[.agg #[.int .i64 c0, .int .i64 c1, .int .i64 c2, .int .i64 c3, .int .i64 c4, .int .i64 c5, .int .i64 c6]] w fun e w' => e = .returned (.bool false) ∧ w' = w.alloc (.cells #[.int .i64 c0, .int .i64 c1, .int .i64 c2, .int .i64 c3, .int .i64 c4, .int .i64 c5, .int .i64 c6] 23) := by
  have q2' : c2 < c1 := by omega
  clear q2
  obtain rfl | rfl | rfl | rfl := s
  all_goals
    by_cases h7 : 1 ≤ c6
    · have h8 : decide (c6 ≤ 16) = false := by simp; omega
      clear h
      go_enter Try.func7, Try.ntmps7
      dsimp only [List.append]
      go_wp2
      go_ret
      exact ⟨rfl, rfl⟩
    · have h8 : decide (1 ≤ c6) = false := by simp; omega
      clear h h7
      go_enter Try.func7, Try.ntmps7
      dsimp only [List.append]
      go_wp2
      go_ret
      exact ⟨rfl, rfl⟩
set_option maxHeartbeats 2000000 in
theorem wdrgood_7 (c0 c1 c2 c3 c4 c5 c6 : Int) (w : World) (p0 : 1 ≤ c0) (q0 : c0 ≤ 8) (p1 : 2 ≤ c1) (q1 : c1 ≤ 64) (p2 : 1 ≤ c2) (q2 : c2 ≤ c1 - 1) (s : c3 = 1 ∨ c3 = 2 ∨ c3 = 4 ∨ c3 = 8) (p4 : 1 ≤ c4) (q4 : c4 ≤ 8) (p5 : 1 ≤ c5) (q5 : c5 ≤ 16) (p6 : 1 ≤ c6) (q6 : c6 ≤ 16) : Calls Try.prog 7 #[.agg #[.int .i64 c0, .int .i64 c1, .int .i64 c2, .int .i64 c3, .int .i64 c4, .int .i64 c5, .int .i64 c6]] w fun e w' => e = .returned (.bool true) ∧ w' = w.alloc (.cells #[.int .i64 c0, .int .i64 c1, .int .i64 c2, .int .i64 c3, .int .i64 c4, .int .i64 c5, .int .i64 c6] 23) := by
  have q2' : c2 < c1 := by omega
  clear q2
  obtain rfl | rfl | rfl | rfl := s
  all_goals
    go_enter Try.func7, Try.ntmps7
    dsimp only [List.append]
    go_wp2
    go_ret
    exact ⟨rfl, rfl⟩
set_option maxHeartbeats 2000000 in
theorem wdrgood_any (c0 c1 c2 c3 c4 c5 c6 : Int) (w : World) : Calls Try.prog 7 #[.agg #[.int .i64 c0, .int .i64 c1, .int .i64 c2, .int .i64 c3, .int .i64 c4, .int .i64 c5, .int .i64 c6]] w fun e w' => e = .returned (.bool (goodB c0 c1 c2 c3 c4 c5 c6)) ∧ w' = w.alloc (.cells #[.int .i64 c0, .int .i64 c1, .int .i64 c2, .int .i64 c3, .int .i64 c4, .int .i64 c5, .int .i64 c6] 23) := by
  by_cases h0 : 1 ≤ c0 ∧ c0 ≤ 8
  rotate_left
  · have e : goodB c0 c1 c2 c3 c4 c5 c6 = false := by unfold goodB; simp only [decide_eq_false_iff_not]; omega
    rw [e]; exact rgood_0 c0 c1 c2 c3 c4 c5 c6 w h0
  by_cases h1 : 2 ≤ c1 ∧ c1 ≤ 64
  rotate_left
  · have e : goodB c0 c1 c2 c3 c4 c5 c6 = false := by unfold goodB; simp only [decide_eq_false_iff_not]; omega
    rw [e]; exact rgood_1 c0 c1 c2 c3 c4 c5 c6 w h0.1 h0.2 h1
  by_cases h2 : 1 ≤ c2 ∧ c2 ≤ c1 - 1
  rotate_left
  · have e : goodB c0 c1 c2 c3 c4 c5 c6 = false := by unfold goodB; simp only [decide_eq_false_iff_not]; omega
    rw [e]; exact rgood_2 c0 c1 c2 c3 c4 c5 c6 w h0.1 h0.2 h1.1 h1.2 h2
  by_cases h3 : c3 = 1 ∨ c3 = 2 ∨ c3 = 4 ∨ c3 = 8
  rotate_left
  · have e : goodB c0 c1 c2 c3 c4 c5 c6 = false := by unfold goodB; simp only [decide_eq_false_iff_not]; omega
    rw [e]; exact wdrgood_3 c0 c1 c2 c3 c4 c5 c6 w h0.1 h0.2 h1.1 h1.2 h2.1 h2.2 h3
  by_cases h4 : 1 ≤ c4 ∧ c4 ≤ 8
  rotate_left
  · have e : goodB c0 c1 c2 c3 c4 c5 c6 = false := by unfold goodB; simp only [decide_eq_false_iff_not]; omega
    rw [e]; exact rgood_4 c0 c1 c2 c3 c4 c5 c6 w h0.1 h0.2 h1.1 h1.2 h2.1 h2.2 h3 h4
  by_cases h5 : 1 ≤ c5 ∧ c5 ≤ 16
  rotate_left
  · have e : goodB c0 c1 c2 c3 c4 c5 c6 = false := by unfold goodB; simp only [decide_eq_false_iff_not]; omega
    rw [e]; exact rgood_5 c0 c1 c2 c3 c4 c5 c6 w h0.1 h0.2 h1.1 h1.2 h2.1 h2.2 h3 h4.1 h4.2 h5
  by_cases h6 : 1 ≤ c6 ∧ c6 ≤ 16
  rotate_left
  · have e : goodB c0 c1 c2 c3 c4 c5 c6 = false := by unfold goodB; simp only [decide_eq_false_iff_not]; omega
    rw [e]; exact wdrgood_6 c0 c1 c2 c3 c4 c5 c6 w h0.1 h0.2 h1.1 h1.2 h2.1 h2.2 h3 h4.1 h4.2 h5.1 h5.2 h6
  have e : goodB c0 c1 c2 c3 c4 c5 c6 = true := by unfold goodB; simp only [decide_eq_true_eq]; omega
  rw [e]; exact wdrgood_7 c0 c1 c2 c3 c4 c5 c6 w h0.1 h0.2 h1.1 h1.2 h2.1 h2.2 h3 h4.1 h4.2 h5.1 h5.2 h6.1 h6.2
end Go.Proofs.Ytgpmhbkpagfjaaa
