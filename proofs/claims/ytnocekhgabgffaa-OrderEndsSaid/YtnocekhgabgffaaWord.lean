/- What the calls of package word, and the document's own answers, return. -/
import Derived.Test.YtnocekhgabgffaaKit
import Derived.Test.YtnocekhgabgffaaChecked
import Derived.WalkKit
import Derived.Deep.RegionHeld3
import Derived.Deep.QuietTactic
import Derived.BigQuiet
import Derived.Lib.Hide
import Derived.Deep.RegionWith
namespace Go.Proofs.Ytnocekhgabgffaa
open Go.RowKit
set_option linter.unusedVariables false
set_option maxRecDepth 100000

theorem wdwithin_yes (n a b : Int) (w : World) (h0 : a ≤ n) (h1 : n ≤ b) : Calls Try.prog 42 #[.int .i64 n, .int .i64 a, .int .i64 b] w fun e w' => e = .returned (.bool true) ∧ w = w' := by
  go_enter Try.func42, Try.ntmps42
  go_wp2
  go_ret
  exact ⟨rfl, rfl⟩
theorem wdwithin_no (n a b : Int) (w : World) (h0 : ¬ (a ≤ n ∧ n ≤ b)) : Calls Try.prog 42 #[.int .i64 n, .int .i64 a, .int .i64 b] w fun e w' => e = .returned (.bool false) ∧ w = w' := by
  by_cases h : a ≤ n
  · have h7 : decide (n ≤ b) = false := by simp; omega
    clear h0
    go_enter Try.func42, Try.ntmps42
    go_wp2
    go_ret
    exact ⟨rfl, rfl⟩
  · have h7 : decide (a ≤ n) = false := by simp; omega
    clear h0
    go_enter Try.func42, Try.ntmps42
    go_wp2
    go_ret
    exact ⟨rfl, rfl⟩

theorem mod_any (n m : Int) (w : World) (h0 : -9223372036854775808 ≤ n) (h1 : n ≤ 9223372036854775807) (g0 : 1 ≤ m) (g1 : m ≤ 1000000) : Calls Try.prog 13 #[.int .i64 n, .int .i64 m] w fun e w' => e = .returned (.int .i64 (n % m)) ∧ w = w' := by
  have b1 : n.tmod m < m := Int.tmod_lt_of_pos _ (by omega)
  have b2 : -m < n.tmod m := by have := Int.lt_tmod_of_pos n (b := m) (by omega); omega
  have e1 : (n.tmod m + m) % m = n % m := by
    have hm : ((m.natAbs : Nat) : Int) = m := by omega
    rw [Int.tmod_eq_emod]
    split
    · simp
    · rw [hm, show n % m - m + m = n % m by omega, Int.emod_emod]
  have E := Lib.hid e1
  clear e1
  go_enter Try.func13, Try.ntmps13
  go_wp2
  go_ret
  exact ⟨by rw [← E.out]; rfl, rfl⟩

/-- The word of a line, by its number. -/
def pick (l : List Int) (n : Int) : Int := l.getD n.toNat 0
theorem wdeight (n : Int) (h0 : 0 ≤ n) (h1 : n ≤ 7) : n = 0 ∨ n = 1 ∨ n = 2 ∨ n = 3 ∨ n = 4 ∨ n = 5 ∨ n = 6 ∨ n = 7 := by omega

end Go.Proofs.Ytnocekhgabgffaa
