/- What the calls of package word, and the document's own answers, return. -/
import Derived.Test.YtaidbofadmefkaaKit
import Derived.Test.YtaidbofadmefkaaChecked
import Derived.WalkKit
import Derived.Deep.RegionHeld3
import Derived.Deep.QuietTactic
import Derived.BigQuiet
import Derived.Lib.Hide
import Derived.Deep.RegionWith
namespace Go.Proofs.Ytaidbofadmefkaa
open Go.RowKit
set_option linter.unusedVariables false

theorem within_yes (n a b : Int) (w : World) (h0 : a ≤ n) (h1 : n ≤ b) : Calls Try.prog 18 #[.int .i64 n, .int .i64 a, .int .i64 b] w fun e w' => e = .returned (.bool true) ∧ w = w' := by
  go_enter Try.func18, Try.ntmps18
  go_wp2
  go_ret
  exact ⟨rfl, rfl⟩
theorem within_no (n a b : Int) (w : World) (h0 : ¬ (a ≤ n ∧ n ≤ b)) : Calls Try.prog 18 #[.int .i64 n, .int .i64 a, .int .i64 b] w fun e w' => e = .returned (.bool false) ∧ w = w' := by
  by_cases h : a ≤ n
  · have h7 : decide (n ≤ b) = false := by simp; omega
    clear h0
    go_enter Try.func18, Try.ntmps18
    go_wp2
    go_ret
    exact ⟨rfl, rfl⟩
  · have h7 : decide (a ≤ n) = false := by simp; omega
    clear h0
    go_enter Try.func18, Try.ntmps18
    go_wp2
    go_ret
    exact ⟨rfl, rfl⟩

theorem isWord_yes (n : Int) (w : World) (h0 : 0 ≤ n) (h1 : n ≤ 7) : Calls Try.prog 17 #[.int .i64 n] w fun e w' => e = .returned (.bool true) ∧ w = w' := by
  go_enter Try.func17, Try.ntmps17
  go_wp2_with (go_at_call 18; refine (within_yes _ _ _ _ h0 h1).mono ?_; rintro e w' ⟨rfl, rfl⟩)
  go_ret
  exact ⟨rfl, rfl⟩
theorem isWord_no (n : Int) (w : World) (h0 : ¬ (0 ≤ n ∧ n ≤ 7)) : Calls Try.prog 17 #[.int .i64 n] w fun e w' => e = .returned (.bool false) ∧ w = w' := by
  have H := Lib.hid h0
  clear h0
  go_enter Try.func17, Try.ntmps17
  go_wp2_with (go_at_call 18; refine (within_no _ _ _ _ H.out).mono ?_; rintro e w' ⟨rfl, rfl⟩)
  go_ret
  exact ⟨rfl, rfl⟩

theorem at_ok (n a : Int) (w : World) (h0 : 1 ≤ n) (h1 : n ≤ 64) (g0 : 0 ≤ a) (g1 : a % 8 = 0) (g2 : a / 64 < n) : Calls Try.prog 15 #[.int .i64 n, .int .u64 a] w fun e w' => e = .returned (.tuple #[.int .i64 (a / 64), .int .i64 (a % 64 / 8), .int .i64 0]) ∧ w = w' := by
  have g3 : a < 4096 := by omega
  have t1 : (a % 8 != 0) = false := by simp [g1]
  have t2 : decide (n ≤ a / 64) = false := by simp; omega
  clear g1
  go_enter Try.func15, Try.ntmps15
  go_wp2_with (go_at_call 18; refine (within_yes _ _ _ _ h0 h1).mono ?_; rintro e w' ⟨rfl, rfl⟩)
  go_ret3
  exact ⟨rfl, rfl⟩
theorem at_odd (n a : Int) (w : World) (h0 : 1 ≤ n) (h1 : n ≤ 64) (g0 : 0 ≤ a) (g1 : a % 8 ≠ 0) : Calls Try.prog 15 #[.int .i64 n, .int .u64 a] w fun e w' => e = .returned (.tuple #[.int .i64 0, .int .i64 0, .int .i64 12]) ∧ w = w' := by
  have t1 : (a % 8 != 0) = true := by simp [g1]
  clear g1
  go_enter Try.func15, Try.ntmps15
  go_wp2_with (go_at_call 18; refine (within_yes _ _ _ _ h0 h1).mono ?_; rintro e w' ⟨rfl, rfl⟩)
  go_ret3
  exact ⟨rfl, rfl⟩
theorem at_far (n a : Int) (w : World) (h0 : 1 ≤ n) (h1 : n ≤ 64) (g0 : 0 ≤ a) (g1 : a % 8 = 0) (g2 : n ≤ a / 64) (g3 : a < 8192) : Calls Try.prog 15 #[.int .i64 n, .int .u64 a] w fun e w' => e = .returned (.tuple #[.int .i64 0, .int .i64 0, .int .i64 12]) ∧ w = w' := by
  have t1 : (a % 8 != 0) = false := by simp [g1]
  have t2 : decide (n ≤ a / 64) = true := by simpa using g2
  clear g1
  go_enter Try.func15, Try.ntmps15
  go_wp2_with (go_at_call 18; refine (within_yes _ _ _ _ h0 h1).mono ?_; rintro e w' ⟨rfl, rfl⟩)
  go_ret3
  exact ⟨rfl, rfl⟩

theorem addr_ok (l n : Int) (w : World) (h0 : 0 ≤ l) (h1 : l ≤ 63) (g0 : 0 ≤ n) (g1 : n ≤ 7) : Calls Try.prog 16 #[.int .i64 l, .int .i64 n] w fun e w' => e = .returned (.int .u64 (64 * l + 8 * n)) ∧ w = w' := by
  go_enter Try.func16, Try.ntmps16
  go_wp2_with (first | (go_at_call 18; refine (within_yes _ _ _ _ h0 h1).mono ?_; rintro e w' ⟨rfl, rfl⟩) | (go_at_call 17; refine (isWord_yes _ _ g0 g1).mono ?_; rintro e w' ⟨rfl, rfl⟩))
  go_ret
  exact ⟨rfl, rfl⟩

theorem mod_any (n m : Int) (w : World) (h0 : -9223372036854775808 ≤ n) (h1 : n ≤ 9223372036854775807) (g0 : 1 ≤ m) (g1 : m ≤ 1000000) : Calls Try.prog 14 #[.int .i64 n, .int .i64 m] w fun e w' => e = .returned (.int .i64 (n % m)) ∧ w = w' := by
  have b1 : n.tmod m < m := Int.tmod_lt_of_pos _ (by omega)
  have b2 : -m < n.tmod m := by have := Int.lt_tmod_of_pos n (b := m) (by omega); omega
  have e1 : (n.tmod m + m) % m = n % m := by
    have hm : ((m.natAbs : Nat) : Int) = m := by omega
    rw [Int.tmod_eq_emod]
    split
    · simp
    · rw [hm, show n % m - m + m = n % m by omega, Int.emod_emod]
  have E := Lib.hid e1
  clear e1
  go_enter Try.func14, Try.ntmps14
  go_wp2
  go_ret
  exact ⟨by rw [← E.out]; rfl, rfl⟩

/-- The word of a line, by its number. -/
def pick (l : List Int) (n : Int) : Int := l.getD n.toNat 0
theorem eight (n : Int) (h0 : 0 ≤ n) (h1 : n ≤ 7) : n = 0 ∨ n = 1 ∨ n = 2 ∨ n = 3 ∨ n = 4 ∨ n = 5 ∨ n = 6 ∨ n = 7 := by omega

theorem get_in (a0 a1 a2 a3 a4 a5 a6 a7 n : Int) (w : World) (h0 : 0 ≤ n) (h1 : n ≤ 7) : Calls Try.prog 7 #[.agg #[.int .u64 a0, .int .u64 a1, .int .u64 a2, .int .u64 a3, .int .u64 a4, .int .u64 a5, .int .u64 a6, .int .u64 a7], .int .i64 n] w fun e w' => e = .returned (.int .u64 (pick [a0, a1, a2, a3, a4, a5, a6, a7] n)) ∧ w' = w.alloc (.cells #[.int .u64 a0, .int .u64 a1, .int .u64 a2, .int .u64 a3, .int .u64 a4, .int .u64 a5, .int .u64 a6, .int .u64 a7] 24) := by
  obtain rfl | rfl | rfl | rfl | rfl | rfl | rfl | rfl := eight n h0 h1
  all_goals
    clear h0 h1
    go_enter Try.func7, Try.ntmps7
    go_wp2_with (go_at_call 17; refine (isWord_yes _ _ (by decide) (by decide)).mono ?_; rintro e w' ⟨rfl, rfl⟩)
    go_ret
    exact ⟨rfl, rfl⟩
theorem get_out (a0 a1 a2 a3 a4 a5 a6 a7 n : Int) (w : World) (h0 : ¬ (0 ≤ n ∧ n ≤ 7)) : Calls Try.prog 7 #[.agg #[.int .u64 a0, .int .u64 a1, .int .u64 a2, .int .u64 a3, .int .u64 a4, .int .u64 a5, .int .u64 a6, .int .u64 a7], .int .i64 n] w fun e w' => e = .returned (.int .u64 0) ∧ w' = w.alloc (.cells #[.int .u64 a0, .int .u64 a1, .int .u64 a2, .int .u64 a3, .int .u64 a4, .int .u64 a5, .int .u64 a6, .int .u64 a7] 24) := by
  have H := Lib.hid h0
  clear h0
  go_enter Try.func7, Try.ntmps7
  go_wp2_with (go_at_call 17; refine (isWord_no _ _ H.out).mono ?_; rintro e w' ⟨rfl, rfl⟩)
  go_ret
  exact ⟨rfl, rfl⟩
theorem rget_in (a0 a1 a2 a3 a4 a5 a6 a7 n : Int) (w : World) (h0 : 0 ≤ n) (h1 : n ≤ 7) : Calls Try.prog 8 #[.agg #[.int .u64 a0, .int .u64 a1, .int .u64 a2, .int .u64 a3, .int .u64 a4, .int .u64 a5, .int .u64 a6, .int .u64 a7], .int .i64 n] w fun e w' => e = .returned (.int .u64 (pick [a0, a1, a2, a3, a4, a5, a6, a7] n)) ∧ w' = w.alloc (.cells #[.int .u64 a0, .int .u64 a1, .int .u64 a2, .int .u64 a3, .int .u64 a4, .int .u64 a5, .int .u64 a6, .int .u64 a7] 24) := by
  obtain rfl | rfl | rfl | rfl | rfl | rfl | rfl | rfl := eight n h0 h1
  all_goals
    clear h0 h1
    go_enter Try.func8, Try.ntmps8
    go_wp2
    go_ret
    exact ⟨rfl, rfl⟩
theorem rget_out (a0 a1 a2 a3 a4 a5 a6 a7 n : Int) (w : World) (h0 : ¬ (0 ≤ n ∧ n ≤ 7)) : Calls Try.prog 8 #[.agg #[.int .u64 a0, .int .u64 a1, .int .u64 a2, .int .u64 a3, .int .u64 a4, .int .u64 a5, .int .u64 a6, .int .u64 a7], .int .i64 n] w fun e w' => e = .returned (.int .u64 0) ∧ w' = w.alloc (.cells #[.int .u64 a0, .int .u64 a1, .int .u64 a2, .int .u64 a3, .int .u64 a4, .int .u64 a5, .int .u64 a6, .int .u64 a7] 24) := by
  by_cases h : n < 0
  · have h7 : decide (n < 0) = true := by simpa using h
    clear h0
    go_enter Try.func8, Try.ntmps8
    go_wp2
    go_ret
    exact ⟨rfl, rfl⟩
  · have h7 : decide (n < 0) = false := by simpa using h
    have h8 : decide (7 < n) = true := by simp; omega
    clear h0
    go_enter Try.func8, Try.ntmps8
    go_wp2
    go_ret
    exact ⟨rfl, rfl⟩

theorem put_0 (a0 a1 a2 a3 a4 a5 a6 a7 v : Int) (w : World) : Calls Try.prog 9 #[.agg #[.int .u64 a0, .int .u64 a1, .int .u64 a2, .int .u64 a3, .int .u64 a4, .int .u64 a5, .int .u64 a6, .int .u64 a7], .int .i64 0, .int .u64 v] w fun e w' => e = .returned (.agg #[.int .u64 v, .int .u64 a1, .int .u64 a2, .int .u64 a3, .int .u64 a4, .int .u64 a5, .int .u64 a6, .int .u64 a7]) ∧ ∃ c1 c2 : Array Value, w' = (w.alloc (.cells c1 24)).alloc (.cells c2 24) := by
  go_enter Try.func9, Try.ntmps9
  go_wp2_with (go_at_call 17; refine (isWord_yes _ _ (by decide) (by decide)).mono ?_; rintro e w' ⟨rfl, rfl⟩)
  simp [bodyPost, results, Try.results9, go_sem]
  exact ⟨_, _, rfl⟩
theorem rput_0 (a0 a1 a2 a3 a4 a5 a6 a7 v : Int) (w : World) : Calls Try.prog 10 #[.agg #[.int .u64 a0, .int .u64 a1, .int .u64 a2, .int .u64 a3, .int .u64 a4, .int .u64 a5, .int .u64 a6, .int .u64 a7], .int .i64 0, .int .u64 v] w fun e w' => e = .returned (.agg #[.int .u64 v, .int .u64 a1, .int .u64 a2, .int .u64 a3, .int .u64 a4, .int .u64 a5, .int .u64 a6, .int .u64 a7]) ∧ ∃ c1 c2 : Array Value, w' = (w.alloc (.cells c1 24)).alloc (.cells c2 24) := by
  go_enter Try.func10, Try.ntmps10
  go_wp2
  simp [bodyPost, results, Try.results10, go_sem]
  exact ⟨_, _, rfl⟩
theorem put_1 (a0 a1 a2 a3 a4 a5 a6 a7 v : Int) (w : World) : Calls Try.prog 9 #[.agg #[.int .u64 a0, .int .u64 a1, .int .u64 a2, .int .u64 a3, .int .u64 a4, .int .u64 a5, .int .u64 a6, .int .u64 a7], .int .i64 1, .int .u64 v] w fun e w' => e = .returned (.agg #[.int .u64 a0, .int .u64 v, .int .u64 a2, .int .u64 a3, .int .u64 a4, .int .u64 a5, .int .u64 a6, .int .u64 a7]) ∧ ∃ c1 c2 : Array Value, w' = (w.alloc (.cells c1 24)).alloc (.cells c2 24) := by
  go_enter Try.func9, Try.ntmps9
  go_wp2_with (go_at_call 17; refine (isWord_yes _ _ (by decide) (by decide)).mono ?_; rintro e w' ⟨rfl, rfl⟩)
  simp [bodyPost, results, Try.results9, go_sem]
  exact ⟨_, _, rfl⟩
theorem rput_1 (a0 a1 a2 a3 a4 a5 a6 a7 v : Int) (w : World) : Calls Try.prog 10 #[.agg #[.int .u64 a0, .int .u64 a1, .int .u64 a2, .int .u64 a3, .int .u64 a4, .int .u64 a5, .int .u64 a6, .int .u64 a7], .int .i64 1, .int .u64 v] w fun e w' => e = .returned (.agg #[.int .u64 a0, .int .u64 v, .int .u64 a2, .int .u64 a3, .int .u64 a4, .int .u64 a5, .int .u64 a6, .int .u64 a7]) ∧ ∃ c1 c2 : Array Value, w' = (w.alloc (.cells c1 24)).alloc (.cells c2 24) := by
  go_enter Try.func10, Try.ntmps10
  go_wp2
  simp [bodyPost, results, Try.results10, go_sem]
  exact ⟨_, _, rfl⟩
theorem put_2 (a0 a1 a2 a3 a4 a5 a6 a7 v : Int) (w : World) : Calls Try.prog 9 #[.agg #[.int .u64 a0, .int .u64 a1, .int .u64 a2, .int .u64 a3, .int .u64 a4, .int .u64 a5, .int .u64 a6, .int .u64 a7], .int .i64 2, .int .u64 v] w fun e w' => e = .returned (.agg #[.int .u64 a0, .int .u64 a1, .int .u64 v, .int .u64 a3, .int .u64 a4, .int .u64 a5, .int .u64 a6, .int .u64 a7]) ∧ ∃ c1 c2 : Array Value, w' = (w.alloc (.cells c1 24)).alloc (.cells c2 24) := by
  go_enter Try.func9, Try.ntmps9
  go_wp2_with (go_at_call 17; refine (isWord_yes _ _ (by decide) (by decide)).mono ?_; rintro e w' ⟨rfl, rfl⟩)
  simp [bodyPost, results, Try.results9, go_sem]
  exact ⟨_, _, rfl⟩
theorem rput_2 (a0 a1 a2 a3 a4 a5 a6 a7 v : Int) (w : World) : Calls Try.prog 10 #[.agg #[.int .u64 a0, .int .u64 a1, .int .u64 a2, .int .u64 a3, .int .u64 a4, .int .u64 a5, .int .u64 a6, .int .u64 a7], .int .i64 2, .int .u64 v] w fun e w' => e = .returned (.agg #[.int .u64 a0, .int .u64 a1, .int .u64 v, .int .u64 a3, .int .u64 a4, .int .u64 a5, .int .u64 a6, .int .u64 a7]) ∧ ∃ c1 c2 : Array Value, w' = (w.alloc (.cells c1 24)).alloc (.cells c2 24) := by
  go_enter Try.func10, Try.ntmps10
  go_wp2
  simp [bodyPost, results, Try.results10, go_sem]
  exact ⟨_, _, rfl⟩
theorem put_3 (a0 a1 a2 a3 a4 a5 a6 a7 v : Int) (w : World) : Calls Try.prog 9 #[.agg #[.int .u64 a0, .int .u64 a1, .int .u64 a2, .int .u64 a3, .int .u64 a4, .int .u64 a5, .int .u64 a6, .int .u64 a7], .int .i64 3, .int .u64 v] w fun e w' => e = .returned (.agg #[.int .u64 a0, .int .u64 a1, .int .u64 a2, .int .u64 v, .int .u64 a4, .int .u64 a5, .int .u64 a6, .int .u64 a7]) ∧ ∃ c1 c2 : Array Value, w' = (w.alloc (.cells c1 24)).alloc (.cells c2 24) := by
  go_enter Try.func9, Try.ntmps9
  go_wp2_with (go_at_call 17; refine (isWord_yes _ _ (by decide) (by decide)).mono ?_; rintro e w' ⟨rfl, rfl⟩)
  simp [bodyPost, results, Try.results9, go_sem]
  exact ⟨_, _, rfl⟩
theorem rput_3 (a0 a1 a2 a3 a4 a5 a6 a7 v : Int) (w : World) : Calls Try.prog 10 #[.agg #[.int .u64 a0, .int .u64 a1, .int .u64 a2, .int .u64 a3, .int .u64 a4, .int .u64 a5, .int .u64 a6, .int .u64 a7], .int .i64 3, .int .u64 v] w fun e w' => e = .returned (.agg #[.int .u64 a0, .int .u64 a1, .int .u64 a2, .int .u64 v, .int .u64 a4, .int .u64 a5, .int .u64 a6, .int .u64 a7]) ∧ ∃ c1 c2 : Array Value, w' = (w.alloc (.cells c1 24)).alloc (.cells c2 24) := by
  go_enter Try.func10, Try.ntmps10
  go_wp2
  simp [bodyPost, results, Try.results10, go_sem]
  exact ⟨_, _, rfl⟩
theorem put_4 (a0 a1 a2 a3 a4 a5 a6 a7 v : Int) (w : World) : Calls Try.prog 9 #[.agg #[.int .u64 a0, .int .u64 a1, .int .u64 a2, .int .u64 a3, .int .u64 a4, .int .u64 a5, .int .u64 a6, .int .u64 a7], .int .i64 4, .int .u64 v] w fun e w' => e = .returned (.agg #[.int .u64 a0, .int .u64 a1, .int .u64 a2, .int .u64 a3, .int .u64 v, .int .u64 a5, .int .u64 a6, .int .u64 a7]) ∧ ∃ c1 c2 : Array Value, w' = (w.alloc (.cells c1 24)).alloc (.cells c2 24) := by
  go_enter Try.func9, Try.ntmps9
  go_wp2_with (go_at_call 17; refine (isWord_yes _ _ (by decide) (by decide)).mono ?_; rintro e w' ⟨rfl, rfl⟩)
  simp [bodyPost, results, Try.results9, go_sem]
  exact ⟨_, _, rfl⟩
theorem rput_4 (a0 a1 a2 a3 a4 a5 a6 a7 v : Int) (w : World) : Calls Try.prog 10 #[.agg #[.int .u64 a0, .int .u64 a1, .int .u64 a2, .int .u64 a3, .int .u64 a4, .int .u64 a5, .int .u64 a6, .int .u64 a7], .int .i64 4, .int .u64 v] w fun e w' => e = .returned (.agg #[.int .u64 a0, .int .u64 a1, .int .u64 a2, .int .u64 a3, .int .u64 v, .int .u64 a5, .int .u64 a6, .int .u64 a7]) ∧ ∃ c1 c2 : Array Value, w' = (w.alloc (.cells c1 24)).alloc (.cells c2 24) := by
  go_enter Try.func10, Try.ntmps10
  go_wp2
  simp [bodyPost, results, Try.results10, go_sem]
  exact ⟨_, _, rfl⟩
theorem put_5 (a0 a1 a2 a3 a4 a5 a6 a7 v : Int) (w : World) : Calls Try.prog 9 #[.agg #[.int .u64 a0, .int .u64 a1, .int .u64 a2, .int .u64 a3, .int .u64 a4, .int .u64 a5, .int .u64 a6, .int .u64 a7], .int .i64 5, .int .u64 v] w fun e w' => e = .returned (.agg #[.int .u64 a0, .int .u64 a1, .int .u64 a2, .int .u64 a3, .int .u64 a4, .int .u64 v, .int .u64 a6, .int .u64 a7]) ∧ ∃ c1 c2 : Array Value, w' = (w.alloc (.cells c1 24)).alloc (.cells c2 24) := by
  go_enter Try.func9, Try.ntmps9
  go_wp2_with (go_at_call 17; refine (isWord_yes _ _ (by decide) (by decide)).mono ?_; rintro e w' ⟨rfl, rfl⟩)
  simp [bodyPost, results, Try.results9, go_sem]
  exact ⟨_, _, rfl⟩
theorem rput_5 (a0 a1 a2 a3 a4 a5 a6 a7 v : Int) (w : World) : Calls Try.prog 10 #[.agg #[.int .u64 a0, .int .u64 a1, .int .u64 a2, .int .u64 a3, .int .u64 a4, .int .u64 a5, .int .u64 a6, .int .u64 a7], .int .i64 5, .int .u64 v] w fun e w' => e = .returned (.agg #[.int .u64 a0, .int .u64 a1, .int .u64 a2, .int .u64 a3, .int .u64 a4, .int .u64 v, .int .u64 a6, .int .u64 a7]) ∧ ∃ c1 c2 : Array Value, w' = (w.alloc (.cells c1 24)).alloc (.cells c2 24) := by
  go_enter Try.func10, Try.ntmps10
  go_wp2
  simp [bodyPost, results, Try.results10, go_sem]
  exact ⟨_, _, rfl⟩
theorem put_6 (a0 a1 a2 a3 a4 a5 a6 a7 v : Int) (w : World) : Calls Try.prog 9 #[.agg #[.int .u64 a0, .int .u64 a1, .int .u64 a2, .int .u64 a3, .int .u64 a4, .int .u64 a5, .int .u64 a6, .int .u64 a7], .int .i64 6, .int .u64 v] w fun e w' => e = .returned (.agg #[.int .u64 a0, .int .u64 a1, .int .u64 a2, .int .u64 a3, .int .u64 a4, .int .u64 a5, .int .u64 v, .int .u64 a7]) ∧ ∃ c1 c2 : Array Value, w' = (w.alloc (.cells c1 24)).alloc (.cells c2 24) := by
  go_enter Try.func9, Try.ntmps9
  go_wp2_with (go_at_call 17; refine (isWord_yes _ _ (by decide) (by decide)).mono ?_; rintro e w' ⟨rfl, rfl⟩)
  simp [bodyPost, results, Try.results9, go_sem]
  exact ⟨_, _, rfl⟩
theorem rput_6 (a0 a1 a2 a3 a4 a5 a6 a7 v : Int) (w : World) : Calls Try.prog 10 #[.agg #[.int .u64 a0, .int .u64 a1, .int .u64 a2, .int .u64 a3, .int .u64 a4, .int .u64 a5, .int .u64 a6, .int .u64 a7], .int .i64 6, .int .u64 v] w fun e w' => e = .returned (.agg #[.int .u64 a0, .int .u64 a1, .int .u64 a2, .int .u64 a3, .int .u64 a4, .int .u64 a5, .int .u64 v, .int .u64 a7]) ∧ ∃ c1 c2 : Array Value, w' = (w.alloc (.cells c1 24)).alloc (.cells c2 24) := by
  go_enter Try.func10, Try.ntmps10
  go_wp2
  simp [bodyPost, results, Try.results10, go_sem]
  exact ⟨_, _, rfl⟩
theorem put_7 (a0 a1 a2 a3 a4 a5 a6 a7 v : Int) (w : World) : Calls Try.prog 9 #[.agg #[.int .u64 a0, .int .u64 a1, .int .u64 a2, .int .u64 a3, .int .u64 a4, .int .u64 a5, .int .u64 a6, .int .u64 a7], .int .i64 7, .int .u64 v] w fun e w' => e = .returned (.agg #[.int .u64 a0, .int .u64 a1, .int .u64 a2, .int .u64 a3, .int .u64 a4, .int .u64 a5, .int .u64 a6, .int .u64 v]) ∧ ∃ c1 c2 : Array Value, w' = (w.alloc (.cells c1 24)).alloc (.cells c2 24) := by
  go_enter Try.func9, Try.ntmps9
  go_wp2_with (go_at_call 17; refine (isWord_yes _ _ (by decide) (by decide)).mono ?_; rintro e w' ⟨rfl, rfl⟩)
  simp [bodyPost, results, Try.results9, go_sem]
  exact ⟨_, _, rfl⟩
theorem rput_7 (a0 a1 a2 a3 a4 a5 a6 a7 v : Int) (w : World) : Calls Try.prog 10 #[.agg #[.int .u64 a0, .int .u64 a1, .int .u64 a2, .int .u64 a3, .int .u64 a4, .int .u64 a5, .int .u64 a6, .int .u64 a7], .int .i64 7, .int .u64 v] w fun e w' => e = .returned (.agg #[.int .u64 a0, .int .u64 a1, .int .u64 a2, .int .u64 a3, .int .u64 a4, .int .u64 a5, .int .u64 a6, .int .u64 v]) ∧ ∃ c1 c2 : Array Value, w' = (w.alloc (.cells c1 24)).alloc (.cells c2 24) := by
  go_enter Try.func10, Try.ntmps10
  go_wp2
  simp [bodyPost, results, Try.results10, go_sem]
  exact ⟨_, _, rfl⟩
theorem put_out (a0 a1 a2 a3 a4 a5 a6 a7 n v : Int) (w : World) (h0 : ¬ (0 ≤ n ∧ n ≤ 7)) : Calls Try.prog 9 #[.agg #[.int .u64 a0, .int .u64 a1, .int .u64 a2, .int .u64 a3, .int .u64 a4, .int .u64 a5, .int .u64 a6, .int .u64 a7], .int .i64 n, .int .u64 v] w fun e w' => e = .returned (.agg #[.int .u64 a0, .int .u64 a1, .int .u64 a2, .int .u64 a3, .int .u64 a4, .int .u64 a5, .int .u64 a6, .int .u64 a7]) ∧ ∃ c1 c2 : Array Value, w' = (w.alloc (.cells c1 24)).alloc (.cells c2 24) := by
  have H := Lib.hid h0
  clear h0
  go_enter Try.func9, Try.ntmps9
  go_wp2_with (go_at_call 17; refine (isWord_no _ _ H.out).mono ?_; rintro e w' ⟨rfl, rfl⟩)
  simp [bodyPost, results, Try.results9, go_sem]
  exact ⟨_, _, rfl⟩
theorem rput_out (a0 a1 a2 a3 a4 a5 a6 a7 n v : Int) (w : World) (h0 : ¬ (0 ≤ n ∧ n ≤ 7)) : Calls Try.prog 10 #[.agg #[.int .u64 a0, .int .u64 a1, .int .u64 a2, .int .u64 a3, .int .u64 a4, .int .u64 a5, .int .u64 a6, .int .u64 a7], .int .i64 n, .int .u64 v] w fun e w' => e = .returned (.agg #[.int .u64 a0, .int .u64 a1, .int .u64 a2, .int .u64 a3, .int .u64 a4, .int .u64 a5, .int .u64 a6, .int .u64 a7]) ∧ ∃ c1 c2 : Array Value, w' = (w.alloc (.cells c1 24)).alloc (.cells c2 24) := by
  by_cases h : 0 ≤ n
  · have h7 : decide (0 ≤ n) = true := by simpa using h
    have h8 : decide (n ≤ 7) = false := by simp; omega
    clear h0
    go_enter Try.func10, Try.ntmps10
    go_wp2
    simp [bodyPost, results, Try.results10, go_sem]
    exact ⟨_, _, rfl⟩
  · have h7 : decide (0 ≤ n) = false := by simpa using h
    clear h0
    go_enter Try.func10, Try.ntmps10
    go_wp2
    simp [bodyPost, results, Try.results10, go_sem]
    exact ⟨_, _, rfl⟩

end Go.Proofs.Ytaidbofadmefkaa
