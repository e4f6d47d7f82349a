/- Two places have one address just if they are one: walked. -/
import Derived.Test.YtaidbofadmefkaaWordl
namespace Go.Proofs.Ytaidbofadmefkaa
open Go.RowKit
set_option linter.unusedVariables false

theorem mod_as (n m a : Int) (w : World) (h0 : -9223372036854775808 ≤ n) (h1 : n ≤ 9223372036854775807) (g0 : 1 ≤ m) (g1 : m ≤ 1000000) (h : n % m = a) : Calls Try.prog 14 #[.int .i64 n, .int .i64 m] w fun e w' => e = .returned (.int .i64 a) ∧ w = w' := by
  subst h; exact mod_any n m w h0 h1 g0 g1
/-- An int. -/
def Is64 (n : Int) : Prop := -9223372036854775808 ≤ n ∧ n ≤ 9223372036854775807

theorem apart_A0 (n0 n1 n2 n3 a b : Int) (w : World) (i0 : Is64 n0) (i1 : Is64 n1) (i2 : Is64 n2) (i3 : Is64 n3) (m0 : n0 % 64 = a) (m1 : n1 % 8 = b) (m2 : n2 % 64 = a) (m3 : n3 % 8 = b) (a0 : 0 ≤ a) (a1 : a ≤ 63) (b0 : 0 ≤ b) (b1 : b ≤ 7) (hz : a = 0) :
    Calls Try.prog 6 #[.agg #[.int .i64 n0, .int .i64 n1, .int .i64 n2, .int .i64 n3]] w fun e w' => e = .returned (.bool true) ∧ Below w.heap.size w w' := by
  have fc : ∀ (x : Aft (w.heap.size + 1) (w.alloc (.cells #[.int .i64 n0, .int .i64 n1, .int .i64 n2, .int .i64 n3] 38))) (o : Nat), x.w.cell? ⟨w.heap.size, o, none⟩ = (w.alloc (.cells #[.int .i64 n0, .int .i64 n1, .int .i64 n2, .int .i64 n3] 38)).cell? ⟨w.heap.size, o, none⟩ := fun x o => x.cell (by omega) o
  have fd : ∀ (x : Aft (w.heap.size + 1) (w.alloc (.cells #[.int .i64 n0, .int .i64 n1, .int .i64 n2, .int .i64 n3] 38))) (y : Aft (w.heap.size + 1) x.w) (o : Nat), y.w.cell? ⟨w.heap.size, o, none⟩ = (w.alloc (.cells #[.int .i64 n0, .int .i64 n1, .int .i64 n2, .int .i64 n3] 38)).cell? ⟨w.heap.size, o, none⟩ := fun x y o => (y.cell (by omega) o).trans (x.cell (by omega) o)
  have r1 : 64 * a + 8 * b < 4096 := by omega
  have r2 : 64 * a + 8 * b < 4096 := by omega
  have t5 : decide (0 < a) = false := by simp; omega
  have t6 : (a == 0) = true := by simpa using hz
  have H0 := Lib.hid m0
  have H1 := Lib.hid m1
  have H2 := Lib.hid m2
  have H3 := Lib.hid m3
  clear m0 m1 m2 m3 hz
  go_enter Try.func6, Try.ntmps6
  try dsimp only [List.append]
  go_wp2_with fail
  refine wp_region_aft (w.heap.size + 1) (by kernel_rfl) (by kernel_rfl) ?_
  repeat (go_big_quiet_step (first
     | (go_at_call_of 14 (Value.int .i64 64); exact calls_aft_same (mod_as _ _ a _ i0.1 i0.2 (by decide) (by decide) H0.out))
     | (go_at_call_of 14 (Value.int .i64 8); exact calls_aft_same (mod_as _ _ b _ i1.1 i1.2 (by decide) (by decide) H1.out))))
  refine wpQuiet_nil ?_
  rintro _ ⟨x, rfl⟩
  go_wp2_with fail
  refine wp_region_aft (w.heap.size + 1) (by kernel_rfl) (by kernel_rfl) ?_
  repeat (go_big_quiet_step (first
     | (go_at_call_of 14 (Value.int .i64 64); exact calls_aft_same (mod_as _ _ a _ i2.1 i2.2 (by decide) (by decide) H2.out))
     | (go_at_call_of 14 (Value.int .i64 8); exact calls_aft_same (mod_as _ _ b _ i3.1 i3.2 (by decide) (by decide) H3.out))))
  refine wpQuiet_nil ?_
  rintro _ ⟨y, rfl⟩
  go_wp2_with (first
      | (go_at_call_of 16 (Value.int .i64 b); refine (addr_ok _ _ _ a0 a1 b0 b1).mono ?_; rintro e w' ⟨rfl, rfl⟩)
      | (go_at_call 16; refine (addr_ok _ _ _ a0 a1 b0 b1).mono ?_; rintro e w' ⟨rfl, rfl⟩)
      | (go_at_call_of 15 (Value.int .i64 a); refine (at_far _ _ _ (by omega) (by omega) (by omega) (by omega) (by omega) (by omega)).mono ?_; rintro e w' ⟨rfl, rfl⟩)
      | (go_at_call 15; first | (refine (at_ok _ _ _ (by omega) (by omega) (by omega) (by omega) (by omega)).mono ?_; rintro e w' ⟨rfl, rfl⟩) | (refine (at_odd _ _ _ (by omega) (by omega) (by omega) (by omega)).mono ?_; rintro e w' ⟨rfl, rfl⟩))
      | (go_at_call 11; refine (wakes_true _).mono ?_; rintro e w' ⟨rfl, hb⟩))
  go_ret
  exact ⟨rfl, (((Below.refl _ _).alloc (Nat.le_refl _) _).trans ((x.below.mono (by omega)).trans (y.below.mono (by omega)))).trans (hb.mono (Nat.le_trans (Nat.le_trans (by simp) x.size) y.size))⟩

theorem apart_B0 (n0 n1 n2 n3 a b d : Int) (w : World) (i0 : Is64 n0) (i1 : Is64 n1) (i2 : Is64 n2) (i3 : Is64 n3) (m0 : n0 % 64 = a) (m1 : n1 % 8 = b) (m2 : n2 % 64 = a) (m3 : n3 % 8 = d) (a0 : 0 ≤ a) (a1 : a ≤ 63) (b0 : 0 ≤ b) (b1 : b ≤ 7) (d0 : 0 ≤ d) (d1 : d ≤ 7) (hk : b ≠ d) (hz : a = 0) :
    Calls Try.prog 6 #[.agg #[.int .i64 n0, .int .i64 n1, .int .i64 n2, .int .i64 n3]] w fun e w' => e = .returned (.bool true) ∧ Below w.heap.size w w' := by
  have fc : ∀ (x : Aft (w.heap.size + 1) (w.alloc (.cells #[.int .i64 n0, .int .i64 n1, .int .i64 n2, .int .i64 n3] 38))) (o : Nat), x.w.cell? ⟨w.heap.size, o, none⟩ = (w.alloc (.cells #[.int .i64 n0, .int .i64 n1, .int .i64 n2, .int .i64 n3] 38)).cell? ⟨w.heap.size, o, none⟩ := fun x o => x.cell (by omega) o
  have fd : ∀ (x : Aft (w.heap.size + 1) (w.alloc (.cells #[.int .i64 n0, .int .i64 n1, .int .i64 n2, .int .i64 n3] 38))) (y : Aft (w.heap.size + 1) x.w) (o : Nat), y.w.cell? ⟨w.heap.size, o, none⟩ = (w.alloc (.cells #[.int .i64 n0, .int .i64 n1, .int .i64 n2, .int .i64 n3] 38)).cell? ⟨w.heap.size, o, none⟩ := fun x y o => (y.cell (by omega) o).trans (x.cell (by omega) o)
  have r1 : 64 * a + 8 * b < 4096 := by omega
  have r2 : 64 * a + 8 * d < 4096 := by omega
  have t1 : (64 * a + 8 * b == 64 * a + 8 * d) = false := by simp only [beq_eq_false_iff_ne, ne_eq]; omega
  have t2 : (b == d) = false := by simpa using hk
  have t5 : decide (0 < a) = false := by simp; omega
  have t6 : (a == 0) = true := by simpa using hz
  have H0 := Lib.hid m0
  have H1 := Lib.hid m1
  have H2 := Lib.hid m2
  have H3 := Lib.hid m3
  clear m0 m1 m2 m3 hk hz
  go_enter Try.func6, Try.ntmps6
  try dsimp only [List.append]
  go_wp2_with fail
  refine wp_region_aft (w.heap.size + 1) (by kernel_rfl) (by kernel_rfl) ?_
  repeat (go_big_quiet_step (first
     | (go_at_call_of 14 (Value.int .i64 64); exact calls_aft_same (mod_as _ _ a _ i0.1 i0.2 (by decide) (by decide) H0.out))
     | (go_at_call_of 14 (Value.int .i64 8); exact calls_aft_same (mod_as _ _ b _ i1.1 i1.2 (by decide) (by decide) H1.out))))
  refine wpQuiet_nil ?_
  rintro _ ⟨x, rfl⟩
  go_wp2_with fail
  refine wp_region_aft (w.heap.size + 1) (by kernel_rfl) (by kernel_rfl) ?_
  repeat (go_big_quiet_step (first
     | (go_at_call_of 14 (Value.int .i64 64); exact calls_aft_same (mod_as _ _ a _ i2.1 i2.2 (by decide) (by decide) H2.out))
     | (go_at_call_of 14 (Value.int .i64 8); exact calls_aft_same (mod_as _ _ d _ i3.1 i3.2 (by decide) (by decide) H3.out))))
  refine wpQuiet_nil ?_
  rintro _ ⟨y, rfl⟩
  go_wp2_with (first
      | (go_at_call_of 16 (Value.int .i64 d); refine (addr_ok _ _ _ a0 a1 d0 d1).mono ?_; rintro e w' ⟨rfl, rfl⟩)
      | (go_at_call 16; refine (addr_ok _ _ _ a0 a1 b0 b1).mono ?_; rintro e w' ⟨rfl, rfl⟩)
      | (go_at_call_of 15 (Value.int .i64 a); refine (at_far _ _ _ (by omega) (by omega) (by omega) (by omega) (by omega) (by omega)).mono ?_; rintro e w' ⟨rfl, rfl⟩)
      | (go_at_call 15; first | (refine (at_ok _ _ _ (by omega) (by omega) (by omega) (by omega) (by omega)).mono ?_; rintro e w' ⟨rfl, rfl⟩) | (refine (at_odd _ _ _ (by omega) (by omega) (by omega) (by omega)).mono ?_; rintro e w' ⟨rfl, rfl⟩))
      | (go_at_call 11; refine (wakes_true _).mono ?_; rintro e w' ⟨rfl, hb⟩))
  go_ret
  exact ⟨rfl, (((Below.refl _ _).alloc (Nat.le_refl _) _).trans ((x.below.mono (by omega)).trans (y.below.mono (by omega)))).trans (hb.mono (Nat.le_trans (Nat.le_trans (by simp) x.size) y.size))⟩

theorem apart_C0 (n0 n1 n2 n3 a b c d : Int) (w : World) (i0 : Is64 n0) (i1 : Is64 n1) (i2 : Is64 n2) (i3 : Is64 n3) (m0 : n0 % 64 = a) (m1 : n1 % 8 = b) (m2 : n2 % 64 = c) (m3 : n3 % 8 = d) (a0 : 0 ≤ a) (a1 : a ≤ 63) (b0 : 0 ≤ b) (b1 : b ≤ 7) (c0 : 0 ≤ c) (c1 : c ≤ 63) (d0 : 0 ≤ d) (d1 : d ≤ 7) (hk : a < c) (hz : a = 0) :
    Calls Try.prog 6 #[.agg #[.int .i64 n0, .int .i64 n1, .int .i64 n2, .int .i64 n3]] w fun e w' => e = .returned (.bool true) ∧ Below w.heap.size w w' := by
  have fc : ∀ (x : Aft (w.heap.size + 1) (w.alloc (.cells #[.int .i64 n0, .int .i64 n1, .int .i64 n2, .int .i64 n3] 38))) (o : Nat), x.w.cell? ⟨w.heap.size, o, none⟩ = (w.alloc (.cells #[.int .i64 n0, .int .i64 n1, .int .i64 n2, .int .i64 n3] 38)).cell? ⟨w.heap.size, o, none⟩ := fun x o => x.cell (by omega) o
  have fd : ∀ (x : Aft (w.heap.size + 1) (w.alloc (.cells #[.int .i64 n0, .int .i64 n1, .int .i64 n2, .int .i64 n3] 38))) (y : Aft (w.heap.size + 1) x.w) (o : Nat), y.w.cell? ⟨w.heap.size, o, none⟩ = (w.alloc (.cells #[.int .i64 n0, .int .i64 n1, .int .i64 n2, .int .i64 n3] 38)).cell? ⟨w.heap.size, o, none⟩ := fun x y o => (y.cell (by omega) o).trans (x.cell (by omega) o)
  have r1 : 64 * a + 8 * b < 4096 := by omega
  have r2 : 64 * c + 8 * d < 4096 := by omega
  have t1 : (64 * a + 8 * b == 64 * c + 8 * d) = false := by simp only [beq_eq_false_iff_ne, ne_eq]; omega
  have t2 : (a == c) = false := by simp only [beq_eq_false_iff_ne, ne_eq]; omega
  have t3 : decide (c ≤ a) = false := by simp; omega
  have t4 : decide (64 * a + 8 * b < 64 * c + 8 * d) = true := by simp; omega
  have t5 : decide (0 < a) = false := by simp; omega
  have t6 : (a == 0) = true := by simpa using hz
  have H0 := Lib.hid m0
  have H1 := Lib.hid m1
  have H2 := Lib.hid m2
  have H3 := Lib.hid m3
  clear m0 m1 m2 m3 hk hz
  go_enter Try.func6, Try.ntmps6
  try dsimp only [List.append]
  go_wp2_with fail
  refine wp_region_aft (w.heap.size + 1) (by kernel_rfl) (by kernel_rfl) ?_
  repeat (go_big_quiet_step (first
     | (go_at_call_of 14 (Value.int .i64 64); exact calls_aft_same (mod_as _ _ a _ i0.1 i0.2 (by decide) (by decide) H0.out))
     | (go_at_call_of 14 (Value.int .i64 8); exact calls_aft_same (mod_as _ _ b _ i1.1 i1.2 (by decide) (by decide) H1.out))))
  refine wpQuiet_nil ?_
  rintro _ ⟨x, rfl⟩
  go_wp2_with fail
  refine wp_region_aft (w.heap.size + 1) (by kernel_rfl) (by kernel_rfl) ?_
  repeat (go_big_quiet_step (first
     | (go_at_call_of 14 (Value.int .i64 64); exact calls_aft_same (mod_as _ _ c _ i2.1 i2.2 (by decide) (by decide) H2.out))
     | (go_at_call_of 14 (Value.int .i64 8); exact calls_aft_same (mod_as _ _ d _ i3.1 i3.2 (by decide) (by decide) H3.out))))
  refine wpQuiet_nil ?_
  rintro _ ⟨y, rfl⟩
  go_wp2_with (first
      | (go_at_call_of 16 (Value.int .i64 c); refine (addr_ok _ _ _ c0 c1 d0 d1).mono ?_; rintro e w' ⟨rfl, rfl⟩)
      | (go_at_call 16; refine (addr_ok _ _ _ a0 a1 b0 b1).mono ?_; rintro e w' ⟨rfl, rfl⟩)
      | (go_at_call_of 15 (Value.int .i64 a); refine (at_far _ _ _ (by omega) (by omega) (by omega) (by omega) (by omega) (by omega)).mono ?_; rintro e w' ⟨rfl, rfl⟩)
      | (go_at_call 15; first | (refine (at_ok _ _ _ (by omega) (by omega) (by omega) (by omega) (by omega)).mono ?_; rintro e w' ⟨rfl, rfl⟩) | (refine (at_odd _ _ _ (by omega) (by omega) (by omega) (by omega)).mono ?_; rintro e w' ⟨rfl, rfl⟩))
      | (go_at_call 11; refine (wakes_true _).mono ?_; rintro e w' ⟨rfl, hb⟩))
  go_ret
  exact ⟨rfl, (((Below.refl _ _).alloc (Nat.le_refl _) _).trans ((x.below.mono (by omega)).trans (y.below.mono (by omega)))).trans (hb.mono (Nat.le_trans (Nat.le_trans (by simp) x.size) y.size))⟩

theorem apart_A1 (n0 n1 n2 n3 a b : Int) (w : World) (i0 : Is64 n0) (i1 : Is64 n1) (i2 : Is64 n2) (i3 : Is64 n3) (m0 : n0 % 64 = a) (m1 : n1 % 8 = b) (m2 : n2 % 64 = a) (m3 : n3 % 8 = b) (a0 : 0 ≤ a) (a1 : a ≤ 63) (b0 : 0 ≤ b) (b1 : b ≤ 7) (hz : 0 < a) :
    Calls Try.prog 6 #[.agg #[.int .i64 n0, .int .i64 n1, .int .i64 n2, .int .i64 n3]] w fun e w' => e = .returned (.bool true) ∧ Below w.heap.size w w' := by
  have fc : ∀ (x : Aft (w.heap.size + 1) (w.alloc (.cells #[.int .i64 n0, .int .i64 n1, .int .i64 n2, .int .i64 n3] 38))) (o : Nat), x.w.cell? ⟨w.heap.size, o, none⟩ = (w.alloc (.cells #[.int .i64 n0, .int .i64 n1, .int .i64 n2, .int .i64 n3] 38)).cell? ⟨w.heap.size, o, none⟩ := fun x o => x.cell (by omega) o
  have fd : ∀ (x : Aft (w.heap.size + 1) (w.alloc (.cells #[.int .i64 n0, .int .i64 n1, .int .i64 n2, .int .i64 n3] 38))) (y : Aft (w.heap.size + 1) x.w) (o : Nat), y.w.cell? ⟨w.heap.size, o, none⟩ = (w.alloc (.cells #[.int .i64 n0, .int .i64 n1, .int .i64 n2, .int .i64 n3] 38)).cell? ⟨w.heap.size, o, none⟩ := fun x y o => (y.cell (by omega) o).trans (x.cell (by omega) o)
  have r1 : 64 * a + 8 * b < 4096 := by omega
  have r2 : 64 * a + 8 * b < 4096 := by omega
  have t5 : decide (0 < a) = true := by simpa using hz
  have t6 : (a == 0) = false := by simp; omega
  have H0 := Lib.hid m0
  have H1 := Lib.hid m1
  have H2 := Lib.hid m2
  have H3 := Lib.hid m3
  clear m0 m1 m2 m3
  go_enter Try.func6, Try.ntmps6
  try dsimp only [List.append]
  go_wp2_with fail
  refine wp_region_aft (w.heap.size + 1) (by kernel_rfl) (by kernel_rfl) ?_
  repeat (go_big_quiet_step (first
     | (go_at_call_of 14 (Value.int .i64 64); exact calls_aft_same (mod_as _ _ a _ i0.1 i0.2 (by decide) (by decide) H0.out))
     | (go_at_call_of 14 (Value.int .i64 8); exact calls_aft_same (mod_as _ _ b _ i1.1 i1.2 (by decide) (by decide) H1.out))))
  refine wpQuiet_nil ?_
  rintro _ ⟨x, rfl⟩
  go_wp2_with fail
  refine wp_region_aft (w.heap.size + 1) (by kernel_rfl) (by kernel_rfl) ?_
  repeat (go_big_quiet_step (first
     | (go_at_call_of 14 (Value.int .i64 64); exact calls_aft_same (mod_as _ _ a _ i2.1 i2.2 (by decide) (by decide) H2.out))
     | (go_at_call_of 14 (Value.int .i64 8); exact calls_aft_same (mod_as _ _ b _ i3.1 i3.2 (by decide) (by decide) H3.out))))
  refine wpQuiet_nil ?_
  rintro _ ⟨y, rfl⟩
  go_wp2_with (first
      | (go_at_call_of 16 (Value.int .i64 b); refine (addr_ok _ _ _ a0 a1 b0 b1).mono ?_; rintro e w' ⟨rfl, rfl⟩)
      | (go_at_call 16; refine (addr_ok _ _ _ a0 a1 b0 b1).mono ?_; rintro e w' ⟨rfl, rfl⟩)
      | (go_at_call_of 15 (Value.int .i64 a); refine (at_far _ _ _ (by omega) (by omega) (by omega) (by omega) (by omega) (by omega)).mono ?_; rintro e w' ⟨rfl, rfl⟩)
      | (go_at_call 15; first | (refine (at_ok _ _ _ (by omega) (by omega) (by omega) (by omega) (by omega)).mono ?_; rintro e w' ⟨rfl, rfl⟩) | (refine (at_odd _ _ _ (by omega) (by omega) (by omega) (by omega)).mono ?_; rintro e w' ⟨rfl, rfl⟩))
      | (go_at_call 11; refine (wakes_true _).mono ?_; rintro e w' ⟨rfl, hb⟩))
  go_ret
  exact ⟨rfl, (((Below.refl _ _).alloc (Nat.le_refl _) _).trans ((x.below.mono (by omega)).trans (y.below.mono (by omega)))).trans (hb.mono (Nat.le_trans (Nat.le_trans (by simp) x.size) y.size))⟩

theorem apart_B1 (n0 n1 n2 n3 a b d : Int) (w : World) (i0 : Is64 n0) (i1 : Is64 n1) (i2 : Is64 n2) (i3 : Is64 n3) (m0 : n0 % 64 = a) (m1 : n1 % 8 = b) (m2 : n2 % 64 = a) (m3 : n3 % 8 = d) (a0 : 0 ≤ a) (a1 : a ≤ 63) (b0 : 0 ≤ b) (b1 : b ≤ 7) (d0 : 0 ≤ d) (d1 : d ≤ 7) (hk : b ≠ d) (hz : 0 < a) :
    Calls Try.prog 6 #[.agg #[.int .i64 n0, .int .i64 n1, .int .i64 n2, .int .i64 n3]] w fun e w' => e = .returned (.bool true) ∧ Below w.heap.size w w' := by
  have fc : ∀ (x : Aft (w.heap.size + 1) (w.alloc (.cells #[.int .i64 n0, .int .i64 n1, .int .i64 n2, .int .i64 n3] 38))) (o : Nat), x.w.cell? ⟨w.heap.size, o, none⟩ = (w.alloc (.cells #[.int .i64 n0, .int .i64 n1, .int .i64 n2, .int .i64 n3] 38)).cell? ⟨w.heap.size, o, none⟩ := fun x o => x.cell (by omega) o
  have fd : ∀ (x : Aft (w.heap.size + 1) (w.alloc (.cells #[.int .i64 n0, .int .i64 n1, .int .i64 n2, .int .i64 n3] 38))) (y : Aft (w.heap.size + 1) x.w) (o : Nat), y.w.cell? ⟨w.heap.size, o, none⟩ = (w.alloc (.cells #[.int .i64 n0, .int .i64 n1, .int .i64 n2, .int .i64 n3] 38)).cell? ⟨w.heap.size, o, none⟩ := fun x y o => (y.cell (by omega) o).trans (x.cell (by omega) o)
  have r1 : 64 * a + 8 * b < 4096 := by omega
  have r2 : 64 * a + 8 * d < 4096 := by omega
  have t1 : (64 * a + 8 * b == 64 * a + 8 * d) = false := by simp only [beq_eq_false_iff_ne, ne_eq]; omega
  have t2 : (b == d) = false := by simpa using hk
  have t5 : decide (0 < a) = true := by simpa using hz
  have t6 : (a == 0) = false := by simp; omega
  have H0 := Lib.hid m0
  have H1 := Lib.hid m1
  have H2 := Lib.hid m2
  have H3 := Lib.hid m3
  clear m0 m1 m2 m3 hk
  go_enter Try.func6, Try.ntmps6
  try dsimp only [List.append]
  go_wp2_with fail
  refine wp_region_aft (w.heap.size + 1) (by kernel_rfl) (by kernel_rfl) ?_
  repeat (go_big_quiet_step (first
     | (go_at_call_of 14 (Value.int .i64 64); exact calls_aft_same (mod_as _ _ a _ i0.1 i0.2 (by decide) (by decide) H0.out))
     | (go_at_call_of 14 (Value.int .i64 8); exact calls_aft_same (mod_as _ _ b _ i1.1 i1.2 (by decide) (by decide) H1.out))))
  refine wpQuiet_nil ?_
  rintro _ ⟨x, rfl⟩
  go_wp2_with fail
  refine wp_region_aft (w.heap.size + 1) (by kernel_rfl) (by kernel_rfl) ?_
  repeat (go_big_quiet_step (first
     | (go_at_call_of 14 (Value.int .i64 64); exact calls_aft_same (mod_as _ _ a _ i2.1 i2.2 (by decide) (by decide) H2.out))
     | (go_at_call_of 14 (Value.int .i64 8); exact calls_aft_same (mod_as _ _ d _ i3.1 i3.2 (by decide) (by decide) H3.out))))
  refine wpQuiet_nil ?_
  rintro _ ⟨y, rfl⟩
  go_wp2_with (first
      | (go_at_call_of 16 (Value.int .i64 d); refine (addr_ok _ _ _ a0 a1 d0 d1).mono ?_; rintro e w' ⟨rfl, rfl⟩)
      | (go_at_call 16; refine (addr_ok _ _ _ a0 a1 b0 b1).mono ?_; rintro e w' ⟨rfl, rfl⟩)
      | (go_at_call_of 15 (Value.int .i64 a); refine (at_far _ _ _ (by omega) (by omega) (by omega) (by omega) (by omega) (by omega)).mono ?_; rintro e w' ⟨rfl, rfl⟩)
      | (go_at_call 15; first | (refine (at_ok _ _ _ (by omega) (by omega) (by omega) (by omega) (by omega)).mono ?_; rintro e w' ⟨rfl, rfl⟩) | (refine (at_odd _ _ _ (by omega) (by omega) (by omega) (by omega)).mono ?_; rintro e w' ⟨rfl, rfl⟩))
      | (go_at_call 11; refine (wakes_true _).mono ?_; rintro e w' ⟨rfl, hb⟩))
  go_ret
  exact ⟨rfl, (((Below.refl _ _).alloc (Nat.le_refl _) _).trans ((x.below.mono (by omega)).trans (y.below.mono (by omega)))).trans (hb.mono (Nat.le_trans (Nat.le_trans (by simp) x.size) y.size))⟩

theorem apart_C1 (n0 n1 n2 n3 a b c d : Int) (w : World) (i0 : Is64 n0) (i1 : Is64 n1) (i2 : Is64 n2) (i3 : Is64 n3) (m0 : n0 % 64 = a) (m1 : n1 % 8 = b) (m2 : n2 % 64 = c) (m3 : n3 % 8 = d) (a0 : 0 ≤ a) (a1 : a ≤ 63) (b0 : 0 ≤ b) (b1 : b ≤ 7) (c0 : 0 ≤ c) (c1 : c ≤ 63) (d0 : 0 ≤ d) (d1 : d ≤ 7) (hk : a < c) (hz : 0 < a) :
    Calls Try.prog 6 #[.agg #[.int .i64 n0, .int .i64 n1, .int .i64 n2, .int .i64 n3]] w fun e w' => e = .returned (.bool true) ∧ Below w.heap.size w w' := by
  have fc : ∀ (x : Aft (w.heap.size + 1) (w.alloc (.cells #[.int .i64 n0, .int .i64 n1, .int .i64 n2, .int .i64 n3] 38))) (o : Nat), x.w.cell? ⟨w.heap.size, o, none⟩ = (w.alloc (.cells #[.int .i64 n0, .int .i64 n1, .int .i64 n2, .int .i64 n3] 38)).cell? ⟨w.heap.size, o, none⟩ := fun x o => x.cell (by omega) o
  have fd : ∀ (x : Aft (w.heap.size + 1) (w.alloc (.cells #[.int .i64 n0, .int .i64 n1, .int .i64 n2, .int .i64 n3] 38))) (y : Aft (w.heap.size + 1) x.w) (o : Nat), y.w.cell? ⟨w.heap.size, o, none⟩ = (w.alloc (.cells #[.int .i64 n0, .int .i64 n1, .int .i64 n2, .int .i64 n3] 38)).cell? ⟨w.heap.size, o, none⟩ := fun x y o => (y.cell (by omega) o).trans (x.cell (by omega) o)
  have r1 : 64 * a + 8 * b < 4096 := by omega
  have r2 : 64 * c + 8 * d < 4096 := by omega
  have t1 : (64 * a + 8 * b == 64 * c + 8 * d) = false := by simp only [beq_eq_false_iff_ne, ne_eq]; omega
  have t2 : (a == c) = false := by simp only [beq_eq_false_iff_ne, ne_eq]; omega
  have t3 : decide (c ≤ a) = false := by simp; omega
  have t4 : decide (64 * a + 8 * b < 64 * c + 8 * d) = true := by simp; omega
  have t5 : decide (0 < a) = true := by simpa using hz
  have t6 : (a == 0) = false := by simp; omega
  have H0 := Lib.hid m0
  have H1 := Lib.hid m1
  have H2 := Lib.hid m2
  have H3 := Lib.hid m3
  clear m0 m1 m2 m3 hk
  go_enter Try.func6, Try.ntmps6
  try dsimp only [List.append]
  go_wp2_with fail
  refine wp_region_aft (w.heap.size + 1) (by kernel_rfl) (by kernel_rfl) ?_
  repeat (go_big_quiet_step (first
     | (go_at_call_of 14 (Value.int .i64 64); exact calls_aft_same (mod_as _ _ a _ i0.1 i0.2 (by decide) (by decide) H0.out))
     | (go_at_call_of 14 (Value.int .i64 8); exact calls_aft_same (mod_as _ _ b _ i1.1 i1.2 (by decide) (by decide) H1.out))))
  refine wpQuiet_nil ?_
  rintro _ ⟨x, rfl⟩
  go_wp2_with fail
  refine wp_region_aft (w.heap.size + 1) (by kernel_rfl) (by kernel_rfl) ?_
  repeat (go_big_quiet_step (first
     | (go_at_call_of 14 (Value.int .i64 64); exact calls_aft_same (mod_as _ _ c _ i2.1 i2.2 (by decide) (by decide) H2.out))
     | (go_at_call_of 14 (Value.int .i64 8); exact calls_aft_same (mod_as _ _ d _ i3.1 i3.2 (by decide) (by decide) H3.out))))
  refine wpQuiet_nil ?_
  rintro _ ⟨y, rfl⟩
  go_wp2_with (first
      | (go_at_call_of 16 (Value.int .i64 c); refine (addr_ok _ _ _ c0 c1 d0 d1).mono ?_; rintro e w' ⟨rfl, rfl⟩)
      | (go_at_call 16; refine (addr_ok _ _ _ a0 a1 b0 b1).mono ?_; rintro e w' ⟨rfl, rfl⟩)
      | (go_at_call_of 15 (Value.int .i64 a); refine (at_far _ _ _ (by omega) (by omega) (by omega) (by omega) (by omega) (by omega)).mono ?_; rintro e w' ⟨rfl, rfl⟩)
      | (go_at_call 15; first | (refine (at_ok _ _ _ (by omega) (by omega) (by omega) (by omega) (by omega)).mono ?_; rintro e w' ⟨rfl, rfl⟩) | (refine (at_odd _ _ _ (by omega) (by omega) (by omega) (by omega)).mono ?_; rintro e w' ⟨rfl, rfl⟩))
      | (go_at_call 11; refine (wakes_true _).mono ?_; rintro e w' ⟨rfl, hb⟩))
  go_ret
  exact ⟨rfl, (((Below.refl _ _).alloc (Nat.le_refl _) _).trans ((x.below.mono (by omega)).trans (y.below.mono (by omega)))).trans (hb.mono (Nat.le_trans (Nat.le_trans (by simp) x.size) y.size))⟩

theorem apart_D1 (n0 n1 n2 n3 a b c d : Int) (w : World) (i0 : Is64 n0) (i1 : Is64 n1) (i2 : Is64 n2) (i3 : Is64 n3) (m0 : n0 % 64 = a) (m1 : n1 % 8 = b) (m2 : n2 % 64 = c) (m3 : n3 % 8 = d) (a0 : 0 ≤ a) (a1 : a ≤ 63) (b0 : 0 ≤ b) (b1 : b ≤ 7) (c0 : 0 ≤ c) (c1 : c ≤ 63) (d0 : 0 ≤ d) (d1 : d ≤ 7) (hk : c < a) (hz : 0 < a) :
    Calls Try.prog 6 #[.agg #[.int .i64 n0, .int .i64 n1, .int .i64 n2, .int .i64 n3]] w fun e w' => e = .returned (.bool true) ∧ Below w.heap.size w w' := by
  have fc : ∀ (x : Aft (w.heap.size + 1) (w.alloc (.cells #[.int .i64 n0, .int .i64 n1, .int .i64 n2, .int .i64 n3] 38))) (o : Nat), x.w.cell? ⟨w.heap.size, o, none⟩ = (w.alloc (.cells #[.int .i64 n0, .int .i64 n1, .int .i64 n2, .int .i64 n3] 38)).cell? ⟨w.heap.size, o, none⟩ := fun x o => x.cell (by omega) o
  have fd : ∀ (x : Aft (w.heap.size + 1) (w.alloc (.cells #[.int .i64 n0, .int .i64 n1, .int .i64 n2, .int .i64 n3] 38))) (y : Aft (w.heap.size + 1) x.w) (o : Nat), y.w.cell? ⟨w.heap.size, o, none⟩ = (w.alloc (.cells #[.int .i64 n0, .int .i64 n1, .int .i64 n2, .int .i64 n3] 38)).cell? ⟨w.heap.size, o, none⟩ := fun x y o => (y.cell (by omega) o).trans (x.cell (by omega) o)
  have r1 : 64 * a + 8 * b < 4096 := by omega
  have r2 : 64 * c + 8 * d < 4096 := by omega
  have t1 : (64 * a + 8 * b == 64 * c + 8 * d) = false := by simp only [beq_eq_false_iff_ne, ne_eq]; omega
  have t2 : (a == c) = false := by simp only [beq_eq_false_iff_ne, ne_eq]; omega
  have t3 : decide (c ≤ a) = true := by simp; omega
  have t5 : decide (0 < a) = true := by simpa using hz
  have t6 : (a == 0) = false := by simp; omega
  have H0 := Lib.hid m0
  have H1 := Lib.hid m1
  have H2 := Lib.hid m2
  have H3 := Lib.hid m3
  clear m0 m1 m2 m3 hk
  go_enter Try.func6, Try.ntmps6
  try dsimp only [List.append]
  go_wp2_with fail
  refine wp_region_aft (w.heap.size + 1) (by kernel_rfl) (by kernel_rfl) ?_
  repeat (go_big_quiet_step (first
     | (go_at_call_of 14 (Value.int .i64 64); exact calls_aft_same (mod_as _ _ a _ i0.1 i0.2 (by decide) (by decide) H0.out))
     | (go_at_call_of 14 (Value.int .i64 8); exact calls_aft_same (mod_as _ _ b _ i1.1 i1.2 (by decide) (by decide) H1.out))))
  refine wpQuiet_nil ?_
  rintro _ ⟨x, rfl⟩
  go_wp2_with fail
  refine wp_region_aft (w.heap.size + 1) (by kernel_rfl) (by kernel_rfl) ?_
  repeat (go_big_quiet_step (first
     | (go_at_call_of 14 (Value.int .i64 64); exact calls_aft_same (mod_as _ _ c _ i2.1 i2.2 (by decide) (by decide) H2.out))
     | (go_at_call_of 14 (Value.int .i64 8); exact calls_aft_same (mod_as _ _ d _ i3.1 i3.2 (by decide) (by decide) H3.out))))
  refine wpQuiet_nil ?_
  rintro _ ⟨y, rfl⟩
  go_wp2_with (first
      | (go_at_call_of 16 (Value.int .i64 c); refine (addr_ok _ _ _ c0 c1 d0 d1).mono ?_; rintro e w' ⟨rfl, rfl⟩)
      | (go_at_call 16; refine (addr_ok _ _ _ a0 a1 b0 b1).mono ?_; rintro e w' ⟨rfl, rfl⟩)
      | (go_at_call_of 15 (Value.int .i64 a); refine (at_far _ _ _ (by omega) (by omega) (by omega) (by omega) (by omega) (by omega)).mono ?_; rintro e w' ⟨rfl, rfl⟩)
      | (go_at_call 15; first | (refine (at_ok _ _ _ (by omega) (by omega) (by omega) (by omega) (by omega)).mono ?_; rintro e w' ⟨rfl, rfl⟩) | (refine (at_odd _ _ _ (by omega) (by omega) (by omega) (by omega)).mono ?_; rintro e w' ⟨rfl, rfl⟩))
      | (go_at_call 11; refine (wakes_true _).mono ?_; rintro e w' ⟨rfl, hb⟩))
  go_ret
  exact ⟨rfl, (((Below.refl _ _).alloc (Nat.le_refl _) _).trans ((x.below.mono (by omega)).trans (y.below.mono (by omega)))).trans (hb.mono (Nat.le_trans (Nat.le_trans (by simp) x.size) y.size))⟩

theorem apart_any (n0 n1 n2 n3 : Int) (w : World) (i0 : Is64 n0) (i1 : Is64 n1) (i2 : Is64 n2) (i3 : Is64 n3) :
    Calls Try.prog 6 #[.agg #[.int .i64 n0, .int .i64 n1, .int .i64 n2, .int .i64 n3]] w fun e w' => e = .returned (.bool true) ∧ Below w.heap.size w w' := by
  obtain ⟨a, m0⟩ : ∃ a, n0 % 64 = a := ⟨_, rfl⟩
  obtain ⟨b, m1⟩ : ∃ b, n1 % 8 = b := ⟨_, rfl⟩
  obtain ⟨c, m2⟩ : ∃ c, n2 % 64 = c := ⟨_, rfl⟩
  obtain ⟨d, m3⟩ : ∃ d, n3 % 8 = d := ⟨_, rfl⟩
  have a0 : 0 ≤ a := by omega
  have a1 : a ≤ 63 := by omega
  have b0 : 0 ≤ b := by omega
  have b1 : b ≤ 7 := by omega
  have c0 : 0 ≤ c := by omega
  have c1 : c ≤ 63 := by omega
  have d0 : 0 ≤ d := by omega
  have d1 : d ≤ 7 := by omega
  by_cases z : a = 0
  · by_cases e1 : a = c
    · subst e1
      by_cases e2 : b = d
      · subst e2; exact apart_A0 n0 n1 n2 n3 a b w i0 i1 i2 i3 m0 m1 m2 m3 a0 a1 b0 b1 z
      · exact apart_B0 n0 n1 n2 n3 a b d w i0 i1 i2 i3 m0 m1 m2 m3 a0 a1 b0 b1 d0 d1 e2 z
    · exact apart_C0 n0 n1 n2 n3 a b c d w i0 i1 i2 i3 m0 m1 m2 m3 a0 a1 b0 b1 c0 c1 d0 d1 (by omega) z
  · have z' : 0 < a := by omega
    by_cases e1 : a = c
    · subst e1
      by_cases e2 : b = d
      · subst e2; exact apart_A1 n0 n1 n2 n3 a b w i0 i1 i2 i3 m0 m1 m2 m3 a0 a1 b0 b1 z'
      · exact apart_B1 n0 n1 n2 n3 a b d w i0 i1 i2 i3 m0 m1 m2 m3 a0 a1 b0 b1 d0 d1 e2 z'
    · by_cases e3 : a < c
      · exact apart_C1 n0 n1 n2 n3 a b c d w i0 i1 i2 i3 m0 m1 m2 m3 a0 a1 b0 b1 c0 c1 d0 d1 e3 z'
      · exact apart_D1 n0 n1 n2 n3 a b c d w i0 i1 i2 i3 m0 m1 m2 m3 a0 a1 b0 b1 c0 c1 d0 d1 (by omega) z'
end Go.Proofs.Ytaidbofadmefkaa
