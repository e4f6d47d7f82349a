/- AluGoes, AluUndoes: walked. No condition. -/
import Derived.Test.YtidapabnliaecaaAluc
import Derived.Laws.BitsAllLaws
import Derived.Deep.RegionHeld3
import Derived.Deep.QuietTactic
namespace Go.Proofs.Ytidapabnliaecaa
open Go.RowKit
set_option linter.unusedVariables false
set_option maxHeartbeats 1000000
attribute [local go_sem ↓] cell_row frozen_row heap_drew heap_drewN heap_alloc heap_past heap_setCell heap_putRow
attribute [local go_sem] rowCell_some rowFrozen_some rowHas_some rowIn_some rowPart_full rowPart_lit rowPut_full rowPut_lit rowSet_some size_putRow run_loadS run_storeS loadW_at storeW_at fit_all fit_le one_int one_bool one_pointer one_slice allOne_list putRow_new ne_size1 ne_size2 ne_size3 ne_size4
attribute [local simp ↓] heap_drew heap_drewN heap_alloc heap_past heap_setCell heap_putRow
attribute [local simp] rowCell_some rowFrozen_some rowHas_some rowIn_some rowPart_full rowPart_lit rowPut_full rowPut_lit rowSet_some size_putRow fit_all putRow_new ne_size1 ne_size2 ne_size3 ne_size4

attribute [local go_sem ↓] loadDid storeDid loadJump storeJump
attribute [local go_sem] wideDid wideJump
theorem goes_any (op a b : Int) (w : World) : Calls Try.prog 4 #[.int .i64 op, .int .u64 a, .int .u64 b] w fun e w' => e = .returned (.bool true) ∧ Below w.heap.size w w' := by
  go_enter Try.func4, Try.ntmps4
  go_wp2_with (first | (go_at_call 11; refine (ggo_any _ _ _ _).mono ?_; rintro e w1 ⟨rfl, rfl⟩) | (go_at_call 12; refine (rgo_any _ _ _ _).mono ?_; rintro e w2 ⟨rfl, c2⟩) | (go_at_call 10; refine (wakes_any _).mono ?_; rintro e w3 ⟨rfl, c3⟩))
  go_ret
  exact ⟨rfl, ((((Chg.mapW w 10).trans c2).alloc _).trans c3).below (Nat.le_refl _) (by simp)⟩
theorem undo_add {a : Int} (b : Int) (h0 : 0 ≤ a) (h1 : a < 18446744073709551616) : IntKind.u64.wrap (IntKind.u64.wrap (a + b) - b) = a := by
  rw [IntKind.wrap_u64, IntKind.wrap_u64]
  omega
theorem xor_twice {a b : Int} (a0 : 0 ≤ a) (a1 : a < 18446744073709551616) (b0 : 0 ≤ b) (b1 : b < 18446744073709551616) : bits .xor .u64 (bits .xor .u64 a b) b = a := by
  obtain ⟨x, rfl⟩ : ∃ x : Nat, a = x := ⟨a.toNat, by omega⟩
  obtain ⟨y, rfl⟩ : ∃ y : Nat, b = y := ⟨b.toNat, by omega⟩
  have hx : x < 18446744073709551616 := by omega
  have hy : y < 18446744073709551616 := by omega
  rw [u64_xor_nat x y hx hy, u64_xor_nat (x ^^^ y) y (Nat.xor_lt_two_pow (n := 64) hx hy) hy, Nat.xor_assoc, Nat.xor_self, Nat.xor_zero]
theorem and_self64 {a : Int} (a0 : 0 ≤ a) (a1 : a < 18446744073709551616) : bits .and .u64 a a = a := by
  obtain ⟨x, rfl⟩ : ∃ x : Nat, a = x := ⟨a.toNat, by omega⟩
  rw [u64_and_nat x x (by omega) (by omega), Nat.and_self]
theorem xor_self64 {a : Int} (a0 : 0 ≤ a) (a1 : a < 18446744073709551616) : bits .xor .u64 a a = 0 := by
  obtain ⟨x, rfl⟩ : ∃ x : Nat, a = x := ⟨a.toNat, by omega⟩
  rw [u64_xor_nat x x (by omega) (by omega), Nat.xor_self]
  rfl
theorem undoes_any (a b k : Int) (a0 : 0 ≤ a) (a1 : a < 18446744073709551616) (b0 : 0 ≤ b) (b1 : b < 18446744073709551616) (k0 : 0 ≤ k) (k1 : k < 256) (w : World) :
    Calls Try.prog 5 #[.int .u64 a, .int .u64 b, .int .u8 k] w fun e w' => e = .returned (.bool true) ∧ Below w.heap.size w w' := by
  have q2 : doK 2 = true := rfl
  have q3 : doK 3 = true := rfl
  have q5 : doK 5 = true := rfl
  have q6 : doK 6 = true := rfl
  have q7 : doK 7 = true := rfl
  have q18 : goK 18 = true := rfl
  have q19 : goK 19 = true := rfl
  have q20 : goK 20 = true := rfl
  have d2 : ∀ x y, doV 2 x y = IntKind.u64.wrap (x + y) := fun _ _ => rfl
  have d3 : ∀ x y, doV 3 x y = IntKind.u64.wrap (x - y) := fun _ _ => rfl
  have d5 : ∀ x y, doV 5 x y = bits .xor .u64 x y := fun _ _ => rfl
  have d6 : ∀ x y, doV 6 x y = IntKind.u64.wrap (x * 2 ^ (y % 64).toNat) := fun _ _ => rfl
  have d7 : ∀ x y, doV 7 x y = x / 2 ^ (y % 64).toNat := fun _ _ => rfl
  have ha := undo_add b a0 a1
  have hxor := xor_twice a0 a1 b0 b1
  have hM : ∀ {x : World}, Chg [] w x → Chg [] w (mapW x 10) := fun h => h.trans (Chg.mapW _ _)
  obtain ⟨N, hN, hN64⟩ : ∃ N : Nat, k % 64 = (N : Int) ∧ N < 64 := ⟨(k % 64).toNat, by omega, by omega⟩
  have hk : IntKind.u64.wrap k = k := by rw [IntKind.wrap_u64]; omega
  have v18 : ∀ x y, goV 18 x y = (x == y) := fun _ _ => rfl
  have v19 : ∀ x y, goV 19 x y = (x != y) := fun _ _ => rfl
  have v20 : ∀ x y, goV 20 x y = decide (x < y) := fun _ _ => rfl
  rcases Int.lt_trichotomy a b with hlt | rfl | hlt
  · have t1 : decide (a < b) = true := by simpa using hlt
    have t2 : decide (b < a) = false := by simp; omega
    have t3 : (a == b) = false := by simp; omega
    have t4 : (a != b) = true := by simp; omega
    clear a1 b1 hlt
    go_enter Try.func5, Try.ntmps5
    try dsimp only [List.append]
    go_wp2_with (first | (go_at_call 11; refine (ggo_any _ _ _ _).mono ?_; rintro e w1 ⟨rfl, rfl⟩) | (go_at_call 7; refine (gdo_any _ _ _ (by assumption) _).mono ?_; rintro e w1 ⟨rfl, rfl⟩) | (go_at_call 10; refine (wakes_any _).mono ?_; rintro e w3 ⟨rfl, c3⟩))
    go_ret
    exact ⟨rfl, ((hM (hM (hM (hM (hM (hM (hM (hM (hM (hM (Chg.refl [] w))))))))))).trans c3).below (Nat.le_refl _) (by simp)⟩
  · have t1 : decide (a < a) = false := by simp
    have t3 : (a == a) = true := by simp
    have t4 : (a != a) = false := by simp
    clear a1 b1
    go_enter Try.func5, Try.ntmps5
    try dsimp only [List.append]
    go_wp2_with (first | (go_at_call 11; refine (ggo_any _ _ _ _).mono ?_; rintro e w1 ⟨rfl, rfl⟩) | (go_at_call 7; refine (gdo_any _ _ _ (by assumption) _).mono ?_; rintro e w1 ⟨rfl, rfl⟩) | (go_at_call 10; refine (wakes_any _).mono ?_; rintro e w3 ⟨rfl, c3⟩))
    go_ret
    exact ⟨rfl, ((hM (hM (hM (hM (hM (hM (hM (hM (hM (hM (Chg.refl [] w))))))))))).trans c3).below (Nat.le_refl _) (by simp)⟩
  · have t1 : decide (a < b) = false := by simp; omega
    have t2 : decide (b < a) = true := by simpa using hlt
    have t3 : (a == b) = false := by simp; omega
    have t4 : (a != b) = true := by simp; omega
    clear a1 b1 hlt
    go_enter Try.func5, Try.ntmps5
    try dsimp only [List.append]
    go_wp2_with (first | (go_at_call 11; refine (ggo_any _ _ _ _).mono ?_; rintro e w1 ⟨rfl, rfl⟩) | (go_at_call 7; refine (gdo_any _ _ _ (by assumption) _).mono ?_; rintro e w1 ⟨rfl, rfl⟩) | (go_at_call 10; refine (wakes_any _).mono ?_; rintro e w3 ⟨rfl, c3⟩))
    go_ret
    exact ⟨rfl, ((hM (hM (hM (hM (hM (hM (hM (hM (hM (hM (Chg.refl [] w))))))))))).trans c3).below (Nat.le_refl _) (by simp)⟩
end Go.Proofs.Ytidapabnliaecaa
