/- Whether a configuration is good, by the program and by the document. -/
import Derived.Test.YtnocekhgabgffaaWord
namespace Go.Proofs.Ytnocekhgabgffaa
open Go.RowKit
set_option linter.unusedVariables false
set_option maxRecDepth 100000

theorem sets_yes (n : Int) (w : World) (h : n = 1 ∨ n = 2 ∨ n = 4 ∨ n = 8) : Calls Try.prog 43 #[.int .i64 n] w fun e w' => e = .returned (.bool true) ∧ w = w' := by
  obtain rfl | rfl | rfl | rfl := h
  all_goals
    go_enter Try.func43, Try.ntmps43
    go_wp2
    go_ret
    exact ⟨rfl, rfl⟩
theorem sets_no (n : Int) (w : World) (h : ¬ (n = 1 ∨ n = 2 ∨ n = 4 ∨ n = 8)) : Calls Try.prog 43 #[.int .i64 n] w fun e w' => e = .returned (.bool false) ∧ w = w' := by
  have e1 : (n == 1) = false := by simp; omega
  have e2 : (n == 2) = false := by simp; omega
  have e3 : (n == 4) = false := by simp; omega
  have e4 : (n == 8) = false := by simp; omega
  clear h
  go_enter Try.func43, Try.ntmps43
  go_wp2
  go_ret
  exact ⟨rfl, rfl⟩

theorem good_0 (c0 c1 c2 c3 c4 c5 c6 : Int) (w : World) (h : ¬ (1 ≤ c0 ∧ c0 ≤ 8)) : Calls Try.prog 32 #[.agg #[.int .i64 c0, .int .i64 c1, .int .i64 c2, .int .i64 c3, .int .i64 c4, .int .i64 c5, .int .i64 c6]] w fun e w' => e = .returned (.bool false) ∧ w' = w.alloc (.cells #[.int .i64 c0, .int .i64 c1, .int .i64 c2, .int .i64 c3, .int .i64 c4, .int .i64 c5, .int .i64 c6] 23) := by
  have H := Lib.hid h
  clear h
  go_enter Try.func32, Try.ntmps32
  go_wp2_with (first
      | (go_at_call_of 42 (Value.int .i64 c0); refine (wdwithin_no _ _ _ _ H.out).mono ?_; rintro e w' ⟨rfl, rfl⟩))
  go_ret
  exact ⟨rfl, rfl⟩
theorem good_1 (c0 c1 c2 c3 c4 c5 c6 : Int) (w : World) (p0 : 1 ≤ c0) (q0 : c0 ≤ 8) (h : ¬ (2 ≤ c1 ∧ c1 ≤ 64)) : Calls Try.prog 32 #[.agg #[.int .i64 c0, .int .i64 c1, .int .i64 c2, .int .i64 c3, .int .i64 c4, .int .i64 c5, .int .i64 c6]] w fun e w' => e = .returned (.bool false) ∧ w' = w.alloc (.cells #[.int .i64 c0, .int .i64 c1, .int .i64 c2, .int .i64 c3, .int .i64 c4, .int .i64 c5, .int .i64 c6] 23) := by
  have H := Lib.hid h
  clear h
  go_enter Try.func32, Try.ntmps32
  go_wp2_with (first
      | (go_at_call_of 42 (Value.int .i64 c0); refine (wdwithin_yes _ _ _ _ p0 q0).mono ?_; rintro e w' ⟨rfl, rfl⟩)
      | (go_at_call_of 42 (Value.int .i64 c1); refine (wdwithin_no _ _ _ _ H.out).mono ?_; rintro e w' ⟨rfl, rfl⟩))
  go_ret
  exact ⟨rfl, rfl⟩
theorem good_2 (c0 c1 c2 c3 c4 c5 c6 : Int) (w : World) (p0 : 1 ≤ c0) (q0 : c0 ≤ 8) (p1 : 2 ≤ c1) (q1 : c1 ≤ 64) (h : ¬ (1 ≤ c2 ∧ c2 ≤ c1 - 1)) : Calls Try.prog 32 #[.agg #[.int .i64 c0, .int .i64 c1, .int .i64 c2, .int .i64 c3, .int .i64 c4, .int .i64 c5, .int .i64 c6]] w fun e w' => e = .returned (.bool false) ∧ w' = w.alloc (.cells #[.int .i64 c0, .int .i64 c1, .int .i64 c2, .int .i64 c3, .int .i64 c4, .int .i64 c5, .int .i64 c6] 23) := by
  have H := Lib.hid h
  clear h
  go_enter Try.func32, Try.ntmps32
  go_wp2_with (first
      | (go_at_call_of 42 (Value.int .i64 c0); refine (wdwithin_yes _ _ _ _ p0 q0).mono ?_; rintro e w' ⟨rfl, rfl⟩)
      | (go_at_call_of 42 (Value.int .i64 c1); refine (wdwithin_yes _ _ _ _ p1 q1).mono ?_; rintro e w' ⟨rfl, rfl⟩)
      | (go_at_call_of 42 (Value.int .i64 c2); refine (wdwithin_no _ _ _ _ H.out).mono ?_; rintro e w' ⟨rfl, rfl⟩))
  go_ret
  exact ⟨rfl, rfl⟩
theorem good_3 (c0 c1 c2 c3 c4 c5 c6 : Int) (w : World) (p0 : 1 ≤ c0) (q0 : c0 ≤ 8) (p1 : 2 ≤ c1) (q1 : c1 ≤ 64) (p2 : 1 ≤ c2) (q2 : c2 ≤ c1 - 1) (h : ¬ (c3 = 1 ∨ c3 = 2 ∨ c3 = 4 ∨ c3 = 8)) : Calls Try.prog 32 #[.agg #[.int .i64 c0, .int .i64 c1, .int .i64 c2, .int .i64 c3, .int .i64 c4, .int .i64 c5, .int .i64 c6]] w fun e w' => e = .returned (.bool false) ∧ w' = w.alloc (.cells #[.int .i64 c0, .int .i64 c1, .int .i64 c2, .int .i64 c3, .int .i64 c4, .int .i64 c5, .int .i64 c6] 23) := by
  have H := Lib.hid h
  clear h
  go_enter Try.func32, Try.ntmps32
  go_wp2_with (first
      | (go_at_call_of 42 (Value.int .i64 c0); refine (wdwithin_yes _ _ _ _ p0 q0).mono ?_; rintro e w' ⟨rfl, rfl⟩)
      | (go_at_call_of 42 (Value.int .i64 c1); refine (wdwithin_yes _ _ _ _ p1 q1).mono ?_; rintro e w' ⟨rfl, rfl⟩)
      | (go_at_call_of 42 (Value.int .i64 c2); refine (wdwithin_yes _ _ _ _ p2 q2).mono ?_; rintro e w' ⟨rfl, rfl⟩)
      | (go_at_call 43; refine (sets_no _ _ H.out).mono ?_; rintro e w' ⟨rfl, rfl⟩))
  go_ret
  exact ⟨rfl, rfl⟩
theorem good_4 (c0 c1 c2 c3 c4 c5 c6 : Int) (w : World) (p0 : 1 ≤ c0) (q0 : c0 ≤ 8) (p1 : 2 ≤ c1) (q1 : c1 ≤ 64) (p2 : 1 ≤ c2) (q2 : c2 ≤ c1 - 1) (s : c3 = 1 ∨ c3 = 2 ∨ c3 = 4 ∨ c3 = 8) (h : ¬ (1 ≤ c4 ∧ c4 ≤ 8)) : Calls Try.prog 32 #[.agg #[.int .i64 c0, .int .i64 c1, .int .i64 c2, .int .i64 c3, .int .i64 c4, .int .i64 c5, .int .i64 c6]] w fun e w' => e = .returned (.bool false) ∧ w' = w.alloc (.cells #[.int .i64 c0, .int .i64 c1, .int .i64 c2, .int .i64 c3, .int .i64 c4, .int .i64 c5, .int .i64 c6] 23) := by
  have H := Lib.hid h
  clear h
  have S := Lib.hid s
  clear s
  go_enter Try.func32, Try.ntmps32
  go_wp2_with (first
      | (go_at_call_of 42 (Value.int .i64 c0); refine (wdwithin_yes _ _ _ _ p0 q0).mono ?_; rintro e w' ⟨rfl, rfl⟩)
      | (go_at_call_of 42 (Value.int .i64 c1); refine (wdwithin_yes _ _ _ _ p1 q1).mono ?_; rintro e w' ⟨rfl, rfl⟩)
      | (go_at_call_of 42 (Value.int .i64 c2); refine (wdwithin_yes _ _ _ _ p2 q2).mono ?_; rintro e w' ⟨rfl, rfl⟩)
      | (go_at_call 43; refine (sets_yes _ _ S.out).mono ?_; rintro e w' ⟨rfl, rfl⟩)
      | (go_at_call_of 42 (Value.int .i64 c4); refine (wdwithin_no _ _ _ _ H.out).mono ?_; rintro e w' ⟨rfl, rfl⟩))
  go_ret
  exact ⟨rfl, rfl⟩
theorem good_5 (c0 c1 c2 c3 c4 c5 c6 : Int) (w : World) (p0 : 1 ≤ c0) (q0 : c0 ≤ 8) (p1 : 2 ≤ c1) (q1 : c1 ≤ 64) (p2 : 1 ≤ c2) (q2 : c2 ≤ c1 - 1) (s : c3 = 1 ∨ c3 = 2 ∨ c3 = 4 ∨ c3 = 8) (p4 : 1 ≤ c4) (q4 : c4 ≤ 8) (h : ¬ (1 ≤ c5 ∧ c5 ≤ 16)) : Calls Try.prog 32 #[.agg #[.int .i64 c0, .int .i64 c1, .int .i64 c2, .int .i64 c3, .int .i64 c4, .int .i64 c5, .int .i64 c6]] w fun e w' => e = .returned (.bool false) ∧ w' = w.alloc (.cells #[.int .i64 c0, .int .i64 c1, .int .i64 c2, .int .i64 c3, .int .i64 c4, .int .i64 c5, .int .i64 c6] 23) := by
  have H := Lib.hid h
  clear h
  have S := Lib.hid s
  clear s
  go_enter Try.func32, Try.ntmps32
  go_wp2_with (first
      | (go_at_call_of 42 (Value.int .i64 c0); refine (wdwithin_yes _ _ _ _ p0 q0).mono ?_; rintro e w' ⟨rfl, rfl⟩)
      | (go_at_call_of 42 (Value.int .i64 c1); refine (wdwithin_yes _ _ _ _ p1 q1).mono ?_; rintro e w' ⟨rfl, rfl⟩)
      | (go_at_call_of 42 (Value.int .i64 c2); refine (wdwithin_yes _ _ _ _ p2 q2).mono ?_; rintro e w' ⟨rfl, rfl⟩)
      | (go_at_call 43; refine (sets_yes _ _ S.out).mono ?_; rintro e w' ⟨rfl, rfl⟩)
      | (go_at_call_of 42 (Value.int .i64 c4); refine (wdwithin_yes _ _ _ _ p4 q4).mono ?_; rintro e w' ⟨rfl, rfl⟩)
      | (go_at_call_of 42 (Value.int .i64 c5); refine (wdwithin_no _ _ _ _ H.out).mono ?_; rintro e w' ⟨rfl, rfl⟩))
  go_ret
  exact ⟨rfl, rfl⟩
theorem good_6 (c0 c1 c2 c3 c4 c5 c6 : Int) (w : World) (p0 : 1 ≤ c0) (q0 : c0 ≤ 8) (p1 : 2 ≤ c1) (q1 : c1 ≤ 64) (p2 : 1 ≤ c2) (q2 : c2 ≤ c1 - 1) (s : c3 = 1 ∨ c3 = 2 ∨ c3 = 4 ∨ c3 = 8) (p4 : 1 ≤ c4) (q4 : c4 ≤ 8) (p5 : 1 ≤ c5) (q5 : c5 ≤ 16) (h : ¬ (1 ≤ c6 ∧ c6 ≤ 16)) : Calls Try.prog 32 #[.agg #[.int .i64 c0, .int .i64 c1, .int .i64 c2, .int .i64 c3, .int .i64 c4, .int .i64 c5, .int .i64 c6]] w fun e w' => e = .returned (.bool false) ∧ w' = w.alloc (.cells #[.int .i64 c0, .int .i64 c1, .int .i64 c2, .int .i64 c3, .int .i64 c4, .int .i64 c5, .int .i64 c6] 23) := by
  have H := Lib.hid h
  clear h
  have S := Lib.hid s
  clear s
  go_enter Try.func32, Try.ntmps32
  go_wp2_with (first
      | (go_at_call_of 42 (Value.int .i64 c0); refine (wdwithin_yes _ _ _ _ p0 q0).mono ?_; rintro e w' ⟨rfl, rfl⟩)
      | (go_at_call_of 42 (Value.int .i64 c1); refine (wdwithin_yes _ _ _ _ p1 q1).mono ?_; rintro e w' ⟨rfl, rfl⟩)
      | (go_at_call_of 42 (Value.int .i64 c2); refine (wdwithin_yes _ _ _ _ p2 q2).mono ?_; rintro e w' ⟨rfl, rfl⟩)
      | (go_at_call 43; refine (sets_yes _ _ S.out).mono ?_; rintro e w' ⟨rfl, rfl⟩)
      | (go_at_call_of 42 (Value.int .i64 c4); refine (wdwithin_yes _ _ _ _ p4 q4).mono ?_; rintro e w' ⟨rfl, rfl⟩)
      | (go_at_call_of 42 (Value.int .i64 c5); refine (wdwithin_yes _ _ _ _ p5 q5).mono ?_; rintro e w' ⟨rfl, rfl⟩)
      | (go_at_call_of 42 (Value.int .i64 c6); refine (wdwithin_no _ _ _ _ H.out).mono ?_; rintro e w' ⟨rfl, rfl⟩))
  go_ret
  exact ⟨rfl, rfl⟩
theorem good_7 (c0 c1 c2 c3 c4 c5 c6 : Int) (w : World) (p0 : 1 ≤ c0) (q0 : c0 ≤ 8) (p1 : 2 ≤ c1) (q1 : c1 ≤ 64) (p2 : 1 ≤ c2) (q2 : c2 ≤ c1 - 1) (s : c3 = 1 ∨ c3 = 2 ∨ c3 = 4 ∨ c3 = 8) (p4 : 1 ≤ c4) (q4 : c4 ≤ 8) (p5 : 1 ≤ c5) (q5 : c5 ≤ 16) (p6 : 1 ≤ c6) (q6 : c6 ≤ 16) : Calls Try.prog 32 #[.agg #[.int .i64 c0, .int .i64 c1, .int .i64 c2, .int .i64 c3, .int .i64 c4, .int .i64 c5, .int .i64 c6]] w fun e w' => e = .returned (.bool true) ∧ w' = w.alloc (.cells #[.int .i64 c0, .int .i64 c1, .int .i64 c2, .int .i64 c3, .int .i64 c4, .int .i64 c5, .int .i64 c6] 23) := by
  have S := Lib.hid s
  clear s
  go_enter Try.func32, Try.ntmps32
  go_wp2_with (first
      | (go_at_call_of 42 (Value.int .i64 c0); refine (wdwithin_yes _ _ _ _ p0 q0).mono ?_; rintro e w' ⟨rfl, rfl⟩)
      | (go_at_call_of 42 (Value.int .i64 c1); refine (wdwithin_yes _ _ _ _ p1 q1).mono ?_; rintro e w' ⟨rfl, rfl⟩)
      | (go_at_call_of 42 (Value.int .i64 c2); refine (wdwithin_yes _ _ _ _ p2 q2).mono ?_; rintro e w' ⟨rfl, rfl⟩)
      | (go_at_call 43; refine (sets_yes _ _ S.out).mono ?_; rintro e w' ⟨rfl, rfl⟩)
      | (go_at_call_of 42 (Value.int .i64 c4); refine (wdwithin_yes _ _ _ _ p4 q4).mono ?_; rintro e w' ⟨rfl, rfl⟩)
      | (go_at_call_of 42 (Value.int .i64 c5); refine (wdwithin_yes _ _ _ _ p5 q5).mono ?_; rintro e w' ⟨rfl, rfl⟩)
      | (go_at_call_of 42 (Value.int .i64 c6); refine (wdwithin_yes _ _ _ _ p6 q6).mono ?_; rintro e w' ⟨rfl, rfl⟩))
  go_ret
  exact ⟨rfl, rfl⟩
/-- Is a configuration good? -/
def goodB (c0 c1 c2 c3 c4 c5 c6 : Int) : Bool := decide (1 ≤ c0 ∧ c0 ≤ 8 ∧ 2 ≤ c1 ∧ c1 ≤ 64 ∧ 1 ≤ c2 ∧ c2 ≤ c1 - 1 ∧ (c3 = 1 ∨ c3 = 2 ∨ c3 = 4 ∨ c3 = 8) ∧ 1 ≤ c4 ∧ c4 ≤ 8 ∧ 1 ≤ c5 ∧ c5 ≤ 16 ∧ 1 ≤ c6 ∧ c6 ≤ 16)
theorem good_any (c0 c1 c2 c3 c4 c5 c6 : Int) (w : World) : Calls Try.prog 32 #[.agg #[.int .i64 c0, .int .i64 c1, .int .i64 c2, .int .i64 c3, .int .i64 c4, .int .i64 c5, .int .i64 c6]] w fun e w' => e = .returned (.bool (goodB c0 c1 c2 c3 c4 c5 c6)) ∧ w' = w.alloc (.cells #[.int .i64 c0, .int .i64 c1, .int .i64 c2, .int .i64 c3, .int .i64 c4, .int .i64 c5, .int .i64 c6] 23) := by
  by_cases h0 : 1 ≤ c0 ∧ c0 ≤ 8
  rotate_left
  · have e : goodB c0 c1 c2 c3 c4 c5 c6 = false := by unfold goodB; simp only [decide_eq_false_iff_not]; omega
    rw [e]; exact good_0 c0 c1 c2 c3 c4 c5 c6 w h0
  by_cases h1 : 2 ≤ c1 ∧ c1 ≤ 64
  rotate_left
  · have e : goodB c0 c1 c2 c3 c4 c5 c6 = false := by unfold goodB; simp only [decide_eq_false_iff_not]; omega
    rw [e]; exact good_1 c0 c1 c2 c3 c4 c5 c6 w h0.1 h0.2 h1
  by_cases h2 : 1 ≤ c2 ∧ c2 ≤ c1 - 1
  rotate_left
  · have e : goodB c0 c1 c2 c3 c4 c5 c6 = false := by unfold goodB; simp only [decide_eq_false_iff_not]; omega
    rw [e]; exact good_2 c0 c1 c2 c3 c4 c5 c6 w h0.1 h0.2 h1.1 h1.2 h2
  by_cases h3 : c3 = 1 ∨ c3 = 2 ∨ c3 = 4 ∨ c3 = 8
  rotate_left
  · have e : goodB c0 c1 c2 c3 c4 c5 c6 = false := by unfold goodB; simp only [decide_eq_false_iff_not]; omega
    rw [e]; exact good_3 c0 c1 c2 c3 c4 c5 c6 w h0.1 h0.2 h1.1 h1.2 h2.1 h2.2 h3
  by_cases h4 : 1 ≤ c4 ∧ c4 ≤ 8
  rotate_left
  · have e : goodB c0 c1 c2 c3 c4 c5 c6 = false := by unfold goodB; simp only [decide_eq_false_iff_not]; omega
    rw [e]; exact good_4 c0 c1 c2 c3 c4 c5 c6 w h0.1 h0.2 h1.1 h1.2 h2.1 h2.2 h3 h4
  by_cases h5 : 1 ≤ c5 ∧ c5 ≤ 16
  rotate_left
  · have e : goodB c0 c1 c2 c3 c4 c5 c6 = false := by unfold goodB; simp only [decide_eq_false_iff_not]; omega
    rw [e]; exact good_5 c0 c1 c2 c3 c4 c5 c6 w h0.1 h0.2 h1.1 h1.2 h2.1 h2.2 h3 h4.1 h4.2 h5
  by_cases h6 : 1 ≤ c6 ∧ c6 ≤ 16
  rotate_left
  · have e : goodB c0 c1 c2 c3 c4 c5 c6 = false := by unfold goodB; simp only [decide_eq_false_iff_not]; omega
    rw [e]; exact good_6 c0 c1 c2 c3 c4 c5 c6 w h0.1 h0.2 h1.1 h1.2 h2.1 h2.2 h3 h4.1 h4.2 h5.1 h5.2 h6
  have e : goodB c0 c1 c2 c3 c4 c5 c6 = true := by unfold goodB; simp only [decide_eq_true_eq]; omega
  rw [e]; exact good_7 c0 c1 c2 c3 c4 c5 c6 w h0.1 h0.2 h1.1 h1.2 h2.1 h2.2 h3 h4.1 h4.2 h5.1 h5.2 h6.1 h6.2
end Go.Proofs.Ytnocekhgabgffaa
