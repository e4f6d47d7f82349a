/- The way back from an address, and of a word that was put: walked. -/
import Derived.Test.YtaidbofadmefkaaWorda
namespace Go.Proofs.Ytaidbofadmefkaa
open Go.RowKit
set_option linter.unusedVariables false

theorem at_as (n a l k : Int) (w : World) (h0 : 1 ≤ n) (h1 : n ≤ 64) (g0 : 0 ≤ a) (g1 : a % 8 = 0) (g2 : a / 64 < n) (hl : a / 64 = l) (hk : a % 64 / 8 = k) : Calls Try.prog 15 #[.int .i64 n, .int .u64 a] w fun e w' => e = .returned (.tuple #[.int .i64 l, .int .i64 k, .int .i64 0]) ∧ w = w' := by
  subst hl; subst hk; exact at_ok n a w h0 h1 g0 g1 g2
theorem get_as (a0 a1 a2 a3 a4 a5 a6 a7 n v : Int) (w : World) (h0 : 0 ≤ n) (h1 : n ≤ 7) (h : pick [a0, a1, a2, a3, a4, a5, a6, a7] n = v) : Calls Try.prog 7 #[.agg #[.int .u64 a0, .int .u64 a1, .int .u64 a2, .int .u64 a3, .int .u64 a4, .int .u64 a5, .int .u64 a6, .int .u64 a7], .int .i64 n] w fun e w' => e = .returned (.int .u64 v) ∧ w' = w.alloc (.cells #[.int .u64 a0, .int .u64 a1, .int .u64 a2, .int .u64 a3, .int .u64 a4, .int .u64 a5, .int .u64 a6, .int .u64 a7] 24) := by
  subst h; exact get_in a0 a1 a2 a3 a4 a5 a6 a7 n w h0 h1

theorem back_0 (l n k0 a0 a1 a2 a3 a4 a5 a6 a7 : Int) (w : World) (i0 : Is64 l) (i1 : Is64 n) (m0 : l % 64 = k0) (m1 : n % 8 = 0) (b0 : 0 ≤ k0) (b1 : k0 ≤ 63) :
    Calls Try.prog 5 #[.int .i64 l, .int .i64 n, .agg #[.int .u64 a0, .int .u64 a1, .int .u64 a2, .int .u64 a3, .int .u64 a4, .int .u64 a5, .int .u64 a6, .int .u64 a7]] w fun e w' => e = .returned (.bool true) ∧ Below w.heap.size w w' := by
  have H0 := Lib.hid m0
  have H1 := Lib.hid m1
  clear m0 m1
  go_enter Try.func5, Try.ntmps5
  try dsimp only [List.append]
  go_wp2_with (first
      | (go_at_call_of 14 (Value.int .i64 64); refine (mod_as _ _ k0 _ i0.1 i0.2 (by decide) (by decide) H0.out).mono ?_; rintro e w' ⟨rfl, rfl⟩)
      | (go_at_call_of 14 (Value.int .i64 8); refine (mod_as _ _ 0 _ i1.1 i1.2 (by decide) (by decide) H1.out).mono ?_; rintro e w' ⟨rfl, rfl⟩)
      | (go_at_call 16; refine (addr_ok _ _ _ b0 b1 (by decide) (by decide)).mono ?_; rintro e w' ⟨rfl, rfl⟩)
      | (go_at_call 15; refine (at_as _ _ k0 0 _ (by omega) (by omega) (by omega) (by omega) (by omega) (by omega) (by omega)).mono ?_; rintro e w' ⟨rfl, rfl⟩)
      | (go_at_call 9; refine (put_0 _ _ _ _ _ _ _ _ _ _).mono ?_; rintro e w' ⟨rfl, c1, c2, rfl⟩))
  go_loopw [13] (fun i wr => ∃ k : Nat, k ≤ 8 ∧ i = .int .i64 k ∧ Below w.heap.size w wr ∧ w.heap.size + 4 ≤ wr.heap.size ∧ wr.heap[w.heap.size]? = some (.cells #[.int .u64 a0, .int .u64 a1, .int .u64 a2, .int .u64 a3, .int .u64 a4, .int .u64 a5, .int .u64 a6, .int .u64 a7] 24) ∧ wr.heap[w.heap.size + 1 + 1 + 1]? = some (.cells #[.int .u64 12345, .int .u64 a1, .int .u64 a2, .int .u64 a3, .int .u64 a4, .int .u64 a5, .int .u64 a6, .int .u64 a7] 24)) (fun i _ => 8 - (intOf i).toNat)
  case atStart =>
    refine ⟨0, by omega, rfl, ?_, by simp, ?_, ?_⟩
    · exact ((((Below.refl _ _).alloc (Nat.le_refl _) _).alloc (by simp) _).alloc (by simp; try omega) _).alloc (by simp; try omega) _
    · rw [Below.heap_alloc _ _ _ (by simp; try omega), Below.heap_alloc _ _ _ (by simp; try omega), Below.heap_alloc _ _ _ (by simp)]; exact (MapKept.heap_alloc _ _).1
    · have h4 := (MapKept.heap_alloc (((w.alloc (.cells #[.int .u64 a0, .int .u64 a1, .int .u64 a2, .int .u64 a3, .int .u64 a4, .int .u64 a5, .int .u64 a6, .int .u64 a7] 24)).alloc (.cells c1 24)).alloc (.cells c2 24)) (.cells #[.int .u64 12345, .int .u64 a1, .int .u64 a2, .int .u64 a3, .int .u64 a4, .int .u64 a5, .int .u64 a6, .int .u64 a7] 24)).1
      simpa using h4
  case round =>
    obtain ⟨k, hk, rfl, hbl, hsz, hx, hy⟩ := hrel
    have fx : ∀ x : Aft wr.heap.size wr, x.w.heap[w.heap.size]? = some (.cells #[.int .u64 a0, .int .u64 a1, .int .u64 a2, .int .u64 a3, .int .u64 a4, .int .u64 a5, .int .u64 a6, .int .u64 a7] 24) := fun x => (x.block (by omega)).trans hx
    have fy : ∀ x : Aft wr.heap.size wr, x.w.heap[w.heap.size + 1 + 1 + 1]? = some (.cells #[.int .u64 12345, .int .u64 a1, .int .u64 a2, .int .u64 a3, .int .u64 a4, .int .u64 a5, .int .u64 a6, .int .u64 a7] 24) := fun x => (x.block (by omega)).trans hy
    have gx : ∀ (x : Aft wr.heap.size wr) (o : Nat), x.w.cell? ⟨w.heap.size, o, none⟩ = (#[.int .u64 a0, .int .u64 a1, .int .u64 a2, .int .u64 a3, .int .u64 a4, .int .u64 a5, .int .u64 a6, .int .u64 a7] : Array Value)[o]? := fun x o => by simp [World.cell?, fx x]
    have gy : ∀ (x : Aft wr.heap.size wr) (o : Nat), x.w.cell? ⟨w.heap.size + 1 + 1 + 1, o, none⟩ = (#[.int .u64 12345, .int .u64 a1, .int .u64 a2, .int .u64 a3, .int .u64 a4, .int .u64 a5, .int .u64 a6, .int .u64 a7] : Array Value)[o]? := fun x o => by simp [World.cell?, fy x]
    have gw : ∀ (o : Nat), wr.cell? ⟨w.heap.size + 1 + 1 + 1, o, none⟩ = (#[.int .u64 12345, .int .u64 a1, .int .u64 a2, .int .u64 a3, .int .u64 a4, .int .u64 a5, .int .u64 a6, .int .u64 a7] : Array Value)[o]? := fun o => by simp [World.cell?, hy]
    by_cases h8 : k < 8
    · by_cases hm : k = 0
      · have t1 : ((k : Int) != 0) = false := by simp; omega
        clear hm
        go_wp2_with fail
        refine wp_region_aft wr.heap.size (by kernel_rfl) (by kernel_rfl) ?_
        repeat (go_big_quiet_step (fail))
        refine wpQuiet_nil ?_
        rintro _ ⟨x, rfl⟩
        go_wp2
        go_roundw
        case rel => exact ⟨k + 1, by omega, by go_num, hbl.trans (x.below.mono (by omega)), by have := x.size; omega, fx x, fy x⟩
        case measure => simp [intOf]; omega
      · have t1 : ((k : Int) != 0) = true := by simp; omega
        have t2 : (pick [12345, a1, a2, a3, a4, a5, a6, a7] (k : Int) != pick [a0, a1, a2, a3, a4, a5, a6, a7] (k : Int)) = false := by
          have hh : k = 0 ∨ k = 1 ∨ k = 2 ∨ k = 3 ∨ k = 4 ∨ k = 5 ∨ k = 6 ∨ k = 7 := by omega
          rcases hh with rfl | rfl | rfl | rfl | rfl | rfl | rfl | rfl <;> first | (exact absurd rfl hm) | simp [pick]
        clear hm
        go_wp2_with fail
        refine wp_region_aft wr.heap.size (by kernel_rfl) (by kernel_rfl) ?_
        repeat (go_big_quiet_step ((go_at_call 7; exact calls_aft (Nat.le_refl _) (below1 (get_in _ _ _ _ _ _ _ _ _ _ (by omega) (by omega))))))
        refine wpQuiet_nil ?_
        rintro _ ⟨x, rfl⟩
        go_wp2
        go_roundw
        case rel => exact ⟨k + 1, by omega, by go_num, hbl.trans (x.below.mono (by omega)), by have := x.size; omega, fx x, fy x⟩
        case measure => simp [intOf]; omega
    · go_wp2_with (first
          | (go_at_call 7; refine (get_as _ _ _ _ _ _ _ _ 0 12345 _ (by decide) (by decide) rfl).mono ?_; rintro e w' ⟨rfl, rfl⟩)
          | (go_at_call 11; refine (wakes_true _).mono ?_; rintro e w' ⟨rfl, hb⟩))
      go_ret
      exact ⟨rfl, (hbl.alloc (by omega) _).trans (hb.mono (by simp; omega))⟩

theorem back_1 (l n k0 a0 a1 a2 a3 a4 a5 a6 a7 : Int) (w : World) (i0 : Is64 l) (i1 : Is64 n) (m0 : l % 64 = k0) (m1 : n % 8 = 1) (b0 : 0 ≤ k0) (b1 : k0 ≤ 63) :
    Calls Try.prog 5 #[.int .i64 l, .int .i64 n, .agg #[.int .u64 a0, .int .u64 a1, .int .u64 a2, .int .u64 a3, .int .u64 a4, .int .u64 a5, .int .u64 a6, .int .u64 a7]] w fun e w' => e = .returned (.bool true) ∧ Below w.heap.size w w' := by
  have H0 := Lib.hid m0
  have H1 := Lib.hid m1
  clear m0 m1
  go_enter Try.func5, Try.ntmps5
  try dsimp only [List.append]
  go_wp2_with (first
      | (go_at_call_of 14 (Value.int .i64 64); refine (mod_as _ _ k0 _ i0.1 i0.2 (by decide) (by decide) H0.out).mono ?_; rintro e w' ⟨rfl, rfl⟩)
      | (go_at_call_of 14 (Value.int .i64 8); refine (mod_as _ _ 1 _ i1.1 i1.2 (by decide) (by decide) H1.out).mono ?_; rintro e w' ⟨rfl, rfl⟩)
      | (go_at_call 16; refine (addr_ok _ _ _ b0 b1 (by decide) (by decide)).mono ?_; rintro e w' ⟨rfl, rfl⟩)
      | (go_at_call 15; refine (at_as _ _ k0 1 _ (by omega) (by omega) (by omega) (by omega) (by omega) (by omega) (by omega)).mono ?_; rintro e w' ⟨rfl, rfl⟩)
      | (go_at_call 9; refine (put_1 _ _ _ _ _ _ _ _ _ _).mono ?_; rintro e w' ⟨rfl, c1, c2, rfl⟩))
  go_loopw [13] (fun i wr => ∃ k : Nat, k ≤ 8 ∧ i = .int .i64 k ∧ Below w.heap.size w wr ∧ w.heap.size + 4 ≤ wr.heap.size ∧ wr.heap[w.heap.size]? = some (.cells #[.int .u64 a0, .int .u64 a1, .int .u64 a2, .int .u64 a3, .int .u64 a4, .int .u64 a5, .int .u64 a6, .int .u64 a7] 24) ∧ wr.heap[w.heap.size + 1 + 1 + 1]? = some (.cells #[.int .u64 a0, .int .u64 12345, .int .u64 a2, .int .u64 a3, .int .u64 a4, .int .u64 a5, .int .u64 a6, .int .u64 a7] 24)) (fun i _ => 8 - (intOf i).toNat)
  case atStart =>
    refine ⟨0, by omega, rfl, ?_, by simp, ?_, ?_⟩
    · exact ((((Below.refl _ _).alloc (Nat.le_refl _) _).alloc (by simp) _).alloc (by simp; try omega) _).alloc (by simp; try omega) _
    · rw [Below.heap_alloc _ _ _ (by simp; try omega), Below.heap_alloc _ _ _ (by simp; try omega), Below.heap_alloc _ _ _ (by simp)]; exact (MapKept.heap_alloc _ _).1
    · have h4 := (MapKept.heap_alloc (((w.alloc (.cells #[.int .u64 a0, .int .u64 a1, .int .u64 a2, .int .u64 a3, .int .u64 a4, .int .u64 a5, .int .u64 a6, .int .u64 a7] 24)).alloc (.cells c1 24)).alloc (.cells c2 24)) (.cells #[.int .u64 a0, .int .u64 12345, .int .u64 a2, .int .u64 a3, .int .u64 a4, .int .u64 a5, .int .u64 a6, .int .u64 a7] 24)).1
      simpa using h4
  case round =>
    obtain ⟨k, hk, rfl, hbl, hsz, hx, hy⟩ := hrel
    have fx : ∀ x : Aft wr.heap.size wr, x.w.heap[w.heap.size]? = some (.cells #[.int .u64 a0, .int .u64 a1, .int .u64 a2, .int .u64 a3, .int .u64 a4, .int .u64 a5, .int .u64 a6, .int .u64 a7] 24) := fun x => (x.block (by omega)).trans hx
    have fy : ∀ x : Aft wr.heap.size wr, x.w.heap[w.heap.size + 1 + 1 + 1]? = some (.cells #[.int .u64 a0, .int .u64 12345, .int .u64 a2, .int .u64 a3, .int .u64 a4, .int .u64 a5, .int .u64 a6, .int .u64 a7] 24) := fun x => (x.block (by omega)).trans hy
    have gx : ∀ (x : Aft wr.heap.size wr) (o : Nat), x.w.cell? ⟨w.heap.size, o, none⟩ = (#[.int .u64 a0, .int .u64 a1, .int .u64 a2, .int .u64 a3, .int .u64 a4, .int .u64 a5, .int .u64 a6, .int .u64 a7] : Array Value)[o]? := fun x o => by simp [World.cell?, fx x]
    have gy : ∀ (x : Aft wr.heap.size wr) (o : Nat), x.w.cell? ⟨w.heap.size + 1 + 1 + 1, o, none⟩ = (#[.int .u64 a0, .int .u64 12345, .int .u64 a2, .int .u64 a3, .int .u64 a4, .int .u64 a5, .int .u64 a6, .int .u64 a7] : Array Value)[o]? := fun x o => by simp [World.cell?, fy x]
    have gw : ∀ (o : Nat), wr.cell? ⟨w.heap.size + 1 + 1 + 1, o, none⟩ = (#[.int .u64 a0, .int .u64 12345, .int .u64 a2, .int .u64 a3, .int .u64 a4, .int .u64 a5, .int .u64 a6, .int .u64 a7] : Array Value)[o]? := fun o => by simp [World.cell?, hy]
    by_cases h8 : k < 8
    · by_cases hm : k = 1
      · have t1 : ((k : Int) != 1) = false := by simp; omega
        clear hm
        go_wp2_with fail
        refine wp_region_aft wr.heap.size (by kernel_rfl) (by kernel_rfl) ?_
        repeat (go_big_quiet_step (fail))
        refine wpQuiet_nil ?_
        rintro _ ⟨x, rfl⟩
        go_wp2
        go_roundw
        case rel => exact ⟨k + 1, by omega, by go_num, hbl.trans (x.below.mono (by omega)), by have := x.size; omega, fx x, fy x⟩
        case measure => simp [intOf]; omega
      · have t1 : ((k : Int) != 1) = true := by simp; omega
        have t2 : (pick [a0, 12345, a2, a3, a4, a5, a6, a7] (k : Int) != pick [a0, a1, a2, a3, a4, a5, a6, a7] (k : Int)) = false := by
          have hh : k = 0 ∨ k = 1 ∨ k = 2 ∨ k = 3 ∨ k = 4 ∨ k = 5 ∨ k = 6 ∨ k = 7 := by omega
          rcases hh with rfl | rfl | rfl | rfl | rfl | rfl | rfl | rfl <;> first | (exact absurd rfl hm) | simp [pick]
        clear hm
        go_wp2_with fail
        refine wp_region_aft wr.heap.size (by kernel_rfl) (by kernel_rfl) ?_
        repeat (go_big_quiet_step ((go_at_call 7; exact calls_aft (Nat.le_refl _) (below1 (get_in _ _ _ _ _ _ _ _ _ _ (by omega) (by omega))))))
        refine wpQuiet_nil ?_
        rintro _ ⟨x, rfl⟩
        go_wp2
        go_roundw
        case rel => exact ⟨k + 1, by omega, by go_num, hbl.trans (x.below.mono (by omega)), by have := x.size; omega, fx x, fy x⟩
        case measure => simp [intOf]; omega
    · go_wp2_with (first
          | (go_at_call 7; refine (get_as _ _ _ _ _ _ _ _ 1 12345 _ (by decide) (by decide) rfl).mono ?_; rintro e w' ⟨rfl, rfl⟩)
          | (go_at_call 11; refine (wakes_true _).mono ?_; rintro e w' ⟨rfl, hb⟩))
      go_ret
      exact ⟨rfl, (hbl.alloc (by omega) _).trans (hb.mono (by simp; omega))⟩

theorem back_2 (l n k0 a0 a1 a2 a3 a4 a5 a6 a7 : Int) (w : World) (i0 : Is64 l) (i1 : Is64 n) (m0 : l % 64 = k0) (m1 : n % 8 = 2) (b0 : 0 ≤ k0) (b1 : k0 ≤ 63) :
    Calls Try.prog 5 #[.int .i64 l, .int .i64 n, .agg #[.int .u64 a0, .int .u64 a1, .int .u64 a2, .int .u64 a3, .int .u64 a4, .int .u64 a5, .int .u64 a6, .int .u64 a7]] w fun e w' => e = .returned (.bool true) ∧ Below w.heap.size w w' := by
  have H0 := Lib.hid m0
  have H1 := Lib.hid m1
  clear m0 m1
  go_enter Try.func5, Try.ntmps5
  try dsimp only [List.append]
  go_wp2_with (first
      | (go_at_call_of 14 (Value.int .i64 64); refine (mod_as _ _ k0 _ i0.1 i0.2 (by decide) (by decide) H0.out).mono ?_; rintro e w' ⟨rfl, rfl⟩)
      | (go_at_call_of 14 (Value.int .i64 8); refine (mod_as _ _ 2 _ i1.1 i1.2 (by decide) (by decide) H1.out).mono ?_; rintro e w' ⟨rfl, rfl⟩)
      | (go_at_call 16; refine (addr_ok _ _ _ b0 b1 (by decide) (by decide)).mono ?_; rintro e w' ⟨rfl, rfl⟩)
      | (go_at_call 15; refine (at_as _ _ k0 2 _ (by omega) (by omega) (by omega) (by omega) (by omega) (by omega) (by omega)).mono ?_; rintro e w' ⟨rfl, rfl⟩)
      | (go_at_call 9; refine (put_2 _ _ _ _ _ _ _ _ _ _).mono ?_; rintro e w' ⟨rfl, c1, c2, rfl⟩))
  go_loopw [13] (fun i wr => ∃ k : Nat, k ≤ 8 ∧ i = .int .i64 k ∧ Below w.heap.size w wr ∧ w.heap.size + 4 ≤ wr.heap.size ∧ wr.heap[w.heap.size]? = some (.cells #[.int .u64 a0, .int .u64 a1, .int .u64 a2, .int .u64 a3, .int .u64 a4, .int .u64 a5, .int .u64 a6, .int .u64 a7] 24) ∧ wr.heap[w.heap.size + 1 + 1 + 1]? = some (.cells #[.int .u64 a0, .int .u64 a1, .int .u64 12345, .int .u64 a3, .int .u64 a4, .int .u64 a5, .int .u64 a6, .int .u64 a7] 24)) (fun i _ => 8 - (intOf i).toNat)
  case atStart =>
    refine ⟨0, by omega, rfl, ?_, by simp, ?_, ?_⟩
    · exact ((((Below.refl _ _).alloc (Nat.le_refl _) _).alloc (by simp) _).alloc (by simp; try omega) _).alloc (by simp; try omega) _
    · rw [Below.heap_alloc _ _ _ (by simp; try omega), Below.heap_alloc _ _ _ (by simp; try omega), Below.heap_alloc _ _ _ (by simp)]; exact (MapKept.heap_alloc _ _).1
    · have h4 := (MapKept.heap_alloc (((w.alloc (.cells #[.int .u64 a0, .int .u64 a1, .int .u64 a2, .int .u64 a3, .int .u64 a4, .int .u64 a5, .int .u64 a6, .int .u64 a7] 24)).alloc (.cells c1 24)).alloc (.cells c2 24)) (.cells #[.int .u64 a0, .int .u64 a1, .int .u64 12345, .int .u64 a3, .int .u64 a4, .int .u64 a5, .int .u64 a6, .int .u64 a7] 24)).1
      simpa using h4
  case round =>
    obtain ⟨k, hk, rfl, hbl, hsz, hx, hy⟩ := hrel
    have fx : ∀ x : Aft wr.heap.size wr, x.w.heap[w.heap.size]? = some (.cells #[.int .u64 a0, .int .u64 a1, .int .u64 a2, .int .u64 a3, .int .u64 a4, .int .u64 a5, .int .u64 a6, .int .u64 a7] 24) := fun x => (x.block (by omega)).trans hx
    have fy : ∀ x : Aft wr.heap.size wr, x.w.heap[w.heap.size + 1 + 1 + 1]? = some (.cells #[.int .u64 a0, .int .u64 a1, .int .u64 12345, .int .u64 a3, .int .u64 a4, .int .u64 a5, .int .u64 a6, .int .u64 a7] 24) := fun x => (x.block (by omega)).trans hy
    have gx : ∀ (x : Aft wr.heap.size wr) (o : Nat), x.w.cell? ⟨w.heap.size, o, none⟩ = (#[.int .u64 a0, .int .u64 a1, .int .u64 a2, .int .u64 a3, .int .u64 a4, .int .u64 a5, .int .u64 a6, .int .u64 a7] : Array Value)[o]? := fun x o => by simp [World.cell?, fx x]
    have gy : ∀ (x : Aft wr.heap.size wr) (o : Nat), x.w.cell? ⟨w.heap.size + 1 + 1 + 1, o, none⟩ = (#[.int .u64 a0, .int .u64 a1, .int .u64 12345, .int .u64 a3, .int .u64 a4, .int .u64 a5, .int .u64 a6, .int .u64 a7] : Array Value)[o]? := fun x o => by simp [World.cell?, fy x]
    have gw : ∀ (o : Nat), wr.cell? ⟨w.heap.size + 1 + 1 + 1, o, none⟩ = (#[.int .u64 a0, .int .u64 a1, .int .u64 12345, .int .u64 a3, .int .u64 a4, .int .u64 a5, .int .u64 a6, .int .u64 a7] : Array Value)[o]? := fun o => by simp [World.cell?, hy]
    by_cases h8 : k < 8
    · by_cases hm : k = 2
      · have t1 : ((k : Int) != 2) = false := by simp; omega
        clear hm
        go_wp2_with fail
        refine wp_region_aft wr.heap.size (by kernel_rfl) (by kernel_rfl) ?_
        repeat (go_big_quiet_step (fail))
        refine wpQuiet_nil ?_
        rintro _ ⟨x, rfl⟩
        go_wp2
        go_roundw
        case rel => exact ⟨k + 1, by omega, by go_num, hbl.trans (x.below.mono (by omega)), by have := x.size; omega, fx x, fy x⟩
        case measure => simp [intOf]; omega
      · have t1 : ((k : Int) != 2) = true := by simp; omega
        have t2 : (pick [a0, a1, 12345, a3, a4, a5, a6, a7] (k : Int) != pick [a0, a1, a2, a3, a4, a5, a6, a7] (k : Int)) = false := by
          have hh : k = 0 ∨ k = 1 ∨ k = 2 ∨ k = 3 ∨ k = 4 ∨ k = 5 ∨ k = 6 ∨ k = 7 := by omega
          rcases hh with rfl | rfl | rfl | rfl | rfl | rfl | rfl | rfl <;> first | (exact absurd rfl hm) | simp [pick]
        clear hm
        go_wp2_with fail
        refine wp_region_aft wr.heap.size (by kernel_rfl) (by kernel_rfl) ?_
        repeat (go_big_quiet_step ((go_at_call 7; exact calls_aft (Nat.le_refl _) (below1 (get_in _ _ _ _ _ _ _ _ _ _ (by omega) (by omega))))))
        refine wpQuiet_nil ?_
        rintro _ ⟨x, rfl⟩
        go_wp2
        go_roundw
        case rel => exact ⟨k + 1, by omega, by go_num, hbl.trans (x.below.mono (by omega)), by have := x.size; omega, fx x, fy x⟩
        case measure => simp [intOf]; omega
    · go_wp2_with (first
          | (go_at_call 7; refine (get_as _ _ _ _ _ _ _ _ 2 12345 _ (by decide) (by decide) rfl).mono ?_; rintro e w' ⟨rfl, rfl⟩)
          | (go_at_call 11; refine (wakes_true _).mono ?_; rintro e w' ⟨rfl, hb⟩))
      go_ret
      exact ⟨rfl, (hbl.alloc (by omega) _).trans (hb.mono (by simp; omega))⟩

theorem back_3 (l n k0 a0 a1 a2 a3 a4 a5 a6 a7 : Int) (w : World) (i0 : Is64 l) (i1 : Is64 n) (m0 : l % 64 = k0) (m1 : n % 8 = 3) (b0 : 0 ≤ k0) (b1 : k0 ≤ 63) :
    Calls Try.prog 5 #[.int .i64 l, .int .i64 n, .agg #[.int .u64 a0, .int .u64 a1, .int .u64 a2, .int .u64 a3, .int .u64 a4, .int .u64 a5, .int .u64 a6, .int .u64 a7]] w fun e w' => e = .returned (.bool true) ∧ Below w.heap.size w w' := by
  have H0 := Lib.hid m0
  have H1 := Lib.hid m1
  clear m0 m1
  go_enter Try.func5, Try.ntmps5
  try dsimp only [List.append]
  go_wp2_with (first
      | (go_at_call_of 14 (Value.int .i64 64); refine (mod_as _ _ k0 _ i0.1 i0.2 (by decide) (by decide) H0.out).mono ?_; rintro e w' ⟨rfl, rfl⟩)
      | (go_at_call_of 14 (Value.int .i64 8); refine (mod_as _ _ 3 _ i1.1 i1.2 (by decide) (by decide) H1.out).mono ?_; rintro e w' ⟨rfl, rfl⟩)
      | (go_at_call 16; refine (addr_ok _ _ _ b0 b1 (by decide) (by decide)).mono ?_; rintro e w' ⟨rfl, rfl⟩)
      | (go_at_call 15; refine (at_as _ _ k0 3 _ (by omega) (by omega) (by omega) (by omega) (by omega) (by omega) (by omega)).mono ?_; rintro e w' ⟨rfl, rfl⟩)
      | (go_at_call 9; refine (put_3 _ _ _ _ _ _ _ _ _ _).mono ?_; rintro e w' ⟨rfl, c1, c2, rfl⟩))
  go_loopw [13] (fun i wr => ∃ k : Nat, k ≤ 8 ∧ i = .int .i64 k ∧ Below w.heap.size w wr ∧ w.heap.size + 4 ≤ wr.heap.size ∧ wr.heap[w.heap.size]? = some (.cells #[.int .u64 a0, .int .u64 a1, .int .u64 a2, .int .u64 a3, .int .u64 a4, .int .u64 a5, .int .u64 a6, .int .u64 a7] 24) ∧ wr.heap[w.heap.size + 1 + 1 + 1]? = some (.cells #[.int .u64 a0, .int .u64 a1, .int .u64 a2, .int .u64 12345, .int .u64 a4, .int .u64 a5, .int .u64 a6, .int .u64 a7] 24)) (fun i _ => 8 - (intOf i).toNat)
  case atStart =>
    refine ⟨0, by omega, rfl, ?_, by simp, ?_, ?_⟩
    · exact ((((Below.refl _ _).alloc (Nat.le_refl _) _).alloc (by simp) _).alloc (by simp; try omega) _).alloc (by simp; try omega) _
    · rw [Below.heap_alloc _ _ _ (by simp; try omega), Below.heap_alloc _ _ _ (by simp; try omega), Below.heap_alloc _ _ _ (by simp)]; exact (MapKept.heap_alloc _ _).1
    · have h4 := (MapKept.heap_alloc (((w.alloc (.cells #[.int .u64 a0, .int .u64 a1, .int .u64 a2, .int .u64 a3, .int .u64 a4, .int .u64 a5, .int .u64 a6, .int .u64 a7] 24)).alloc (.cells c1 24)).alloc (.cells c2 24)) (.cells #[.int .u64 a0, .int .u64 a1, .int .u64 a2, .int .u64 12345, .int .u64 a4, .int .u64 a5, .int .u64 a6, .int .u64 a7] 24)).1
      simpa using h4
  case round =>
    obtain ⟨k, hk, rfl, hbl, hsz, hx, hy⟩ := hrel
    have fx : ∀ x : Aft wr.heap.size wr, x.w.heap[w.heap.size]? = some (.cells #[.int .u64 a0, .int .u64 a1, .int .u64 a2, .int .u64 a3, .int .u64 a4, .int .u64 a5, .int .u64 a6, .int .u64 a7] 24) := fun x => (x.block (by omega)).trans hx
    have fy : ∀ x : Aft wr.heap.size wr, x.w.heap[w.heap.size + 1 + 1 + 1]? = some (.cells #[.int .u64 a0, .int .u64 a1, .int .u64 a2, .int .u64 12345, .int .u64 a4, .int .u64 a5, .int .u64 a6, .int .u64 a7] 24) := fun x => (x.block (by omega)).trans hy
    have gx : ∀ (x : Aft wr.heap.size wr) (o : Nat), x.w.cell? ⟨w.heap.size, o, none⟩ = (#[.int .u64 a0, .int .u64 a1, .int .u64 a2, .int .u64 a3, .int .u64 a4, .int .u64 a5, .int .u64 a6, .int .u64 a7] : Array Value)[o]? := fun x o => by simp [World.cell?, fx x]
    have gy : ∀ (x : Aft wr.heap.size wr) (o : Nat), x.w.cell? ⟨w.heap.size + 1 + 1 + 1, o, none⟩ = (#[.int .u64 a0, .int .u64 a1, .int .u64 a2, .int .u64 12345, .int .u64 a4, .int .u64 a5, .int .u64 a6, .int .u64 a7] : Array Value)[o]? := fun x o => by simp [World.cell?, fy x]
    have gw : ∀ (o : Nat), wr.cell? ⟨w.heap.size + 1 + 1 + 1, o, none⟩ = (#[.int .u64 a0, .int .u64 a1, .int .u64 a2, .int .u64 12345, .int .u64 a4, .int .u64 a5, .int .u64 a6, .int .u64 a7] : Array Value)[o]? := fun o => by simp [World.cell?, hy]
    by_cases h8 : k < 8
    · by_cases hm : k = 3
      · have t1 : ((k : Int) != 3) = false := by simp; omega
        clear hm
        go_wp2_with fail
        refine wp_region_aft wr.heap.size (by kernel_rfl) (by kernel_rfl) ?_
        repeat (go_big_quiet_step (fail))
        refine wpQuiet_nil ?_
        rintro _ ⟨x, rfl⟩
        go_wp2
        go_roundw
        case rel => exact ⟨k + 1, by omega, by go_num, hbl.trans (x.below.mono (by omega)), by have := x.size; omega, fx x, fy x⟩
        case measure => simp [intOf]; omega
      · have t1 : ((k : Int) != 3) = true := by simp; omega
        have t2 : (pick [a0, a1, a2, 12345, a4, a5, a6, a7] (k : Int) != pick [a0, a1, a2, a3, a4, a5, a6, a7] (k : Int)) = false := by
          have hh : k = 0 ∨ k = 1 ∨ k = 2 ∨ k = 3 ∨ k = 4 ∨ k = 5 ∨ k = 6 ∨ k = 7 := by omega
          rcases hh with rfl | rfl | rfl | rfl | rfl | rfl | rfl | rfl <;> first | (exact absurd rfl hm) | simp [pick]
        clear hm
        go_wp2_with fail
        refine wp_region_aft wr.heap.size (by kernel_rfl) (by kernel_rfl) ?_
        repeat (go_big_quiet_step ((go_at_call 7; exact calls_aft (Nat.le_refl _) (below1 (get_in _ _ _ _ _ _ _ _ _ _ (by omega) (by omega))))))
        refine wpQuiet_nil ?_
        rintro _ ⟨x, rfl⟩
        go_wp2
        go_roundw
        case rel => exact ⟨k + 1, by omega, by go_num, hbl.trans (x.below.mono (by omega)), by have := x.size; omega, fx x, fy x⟩
        case measure => simp [intOf]; omega
    · go_wp2_with (first
          | (go_at_call 7; refine (get_as _ _ _ _ _ _ _ _ 3 12345 _ (by decide) (by decide) rfl).mono ?_; rintro e w' ⟨rfl, rfl⟩)
          | (go_at_call 11; refine (wakes_true _).mono ?_; rintro e w' ⟨rfl, hb⟩))
      go_ret
      exact ⟨rfl, (hbl.alloc (by omega) _).trans (hb.mono (by simp; omega))⟩

theorem back_4 (l n k0 a0 a1 a2 a3 a4 a5 a6 a7 : Int) (w : World) (i0 : Is64 l) (i1 : Is64 n) (m0 : l % 64 = k0) (m1 : n % 8 = 4) (b0 : 0 ≤ k0) (b1 : k0 ≤ 63) :
    Calls Try.prog 5 #[.int .i64 l, .int .i64 n, .agg #[.int .u64 a0, .int .u64 a1, .int .u64 a2, .int .u64 a3, .int .u64 a4, .int .u64 a5, .int .u64 a6, .int .u64 a7]] w fun e w' => e = .returned (.bool true) ∧ Below w.heap.size w w' := by
  have H0 := Lib.hid m0
  have H1 := Lib.hid m1
  clear m0 m1
  go_enter Try.func5, Try.ntmps5
  try dsimp only [List.append]
  go_wp2_with (first
      | (go_at_call_of 14 (Value.int .i64 64); refine (mod_as _ _ k0 _ i0.1 i0.2 (by decide) (by decide) H0.out).mono ?_; rintro e w' ⟨rfl, rfl⟩)
      | (go_at_call_of 14 (Value.int .i64 8); refine (mod_as _ _ 4 _ i1.1 i1.2 (by decide) (by decide) H1.out).mono ?_; rintro e w' ⟨rfl, rfl⟩)
      | (go_at_call 16; refine (addr_ok _ _ _ b0 b1 (by decide) (by decide)).mono ?_; rintro e w' ⟨rfl, rfl⟩)
      | (go_at_call 15; refine (at_as _ _ k0 4 _ (by omega) (by omega) (by omega) (by omega) (by omega) (by omega) (by omega)).mono ?_; rintro e w' ⟨rfl, rfl⟩)
      | (go_at_call 9; refine (put_4 _ _ _ _ _ _ _ _ _ _).mono ?_; rintro e w' ⟨rfl, c1, c2, rfl⟩))
  go_loopw [13] (fun i wr => ∃ k : Nat, k ≤ 8 ∧ i = .int .i64 k ∧ Below w.heap.size w wr ∧ w.heap.size + 4 ≤ wr.heap.size ∧ wr.heap[w.heap.size]? = some (.cells #[.int .u64 a0, .int .u64 a1, .int .u64 a2, .int .u64 a3, .int .u64 a4, .int .u64 a5, .int .u64 a6, .int .u64 a7] 24) ∧ wr.heap[w.heap.size + 1 + 1 + 1]? = some (.cells #[.int .u64 a0, .int .u64 a1, .int .u64 a2, .int .u64 a3, .int .u64 12345, .int .u64 a5, .int .u64 a6, .int .u64 a7] 24)) (fun i _ => 8 - (intOf i).toNat)
  case atStart =>
    refine ⟨0, by omega, rfl, ?_, by simp, ?_, ?_⟩
    · exact ((((Below.refl _ _).alloc (Nat.le_refl _) _).alloc (by simp) _).alloc (by simp; try omega) _).alloc (by simp; try omega) _
    · rw [Below.heap_alloc _ _ _ (by simp; try omega), Below.heap_alloc _ _ _ (by simp; try omega), Below.heap_alloc _ _ _ (by simp)]; exact (MapKept.heap_alloc _ _).1
    · have h4 := (MapKept.heap_alloc (((w.alloc (.cells #[.int .u64 a0, .int .u64 a1, .int .u64 a2, .int .u64 a3, .int .u64 a4, .int .u64 a5, .int .u64 a6, .int .u64 a7] 24)).alloc (.cells c1 24)).alloc (.cells c2 24)) (.cells #[.int .u64 a0, .int .u64 a1, .int .u64 a2, .int .u64 a3, .int .u64 12345, .int .u64 a5, .int .u64 a6, .int .u64 a7] 24)).1
      simpa using h4
  case round =>
    obtain ⟨k, hk, rfl, hbl, hsz, hx, hy⟩ := hrel
    have fx : ∀ x : Aft wr.heap.size wr, x.w.heap[w.heap.size]? = some (.cells #[.int .u64 a0, .int .u64 a1, .int .u64 a2, .int .u64 a3, .int .u64 a4, .int .u64 a5, .int .u64 a6, .int .u64 a7] 24) := fun x => (x.block (by omega)).trans hx
    have fy : ∀ x : Aft wr.heap.size wr, x.w.heap[w.heap.size + 1 + 1 + 1]? = some (.cells #[.int .u64 a0, .int .u64 a1, .int .u64 a2, .int .u64 a3, .int .u64 12345, .int .u64 a5, .int .u64 a6, .int .u64 a7] 24) := fun x => (x.block (by omega)).trans hy
    have gx : ∀ (x : Aft wr.heap.size wr) (o : Nat), x.w.cell? ⟨w.heap.size, o, none⟩ = (#[.int .u64 a0, .int .u64 a1, .int .u64 a2, .int .u64 a3, .int .u64 a4, .int .u64 a5, .int .u64 a6, .int .u64 a7] : Array Value)[o]? := fun x o => by simp [World.cell?, fx x]
    have gy : ∀ (x : Aft wr.heap.size wr) (o : Nat), x.w.cell? ⟨w.heap.size + 1 + 1 + 1, o, none⟩ = (#[.int .u64 a0, .int .u64 a1, .int .u64 a2, .int .u64 a3, .int .u64 12345, .int .u64 a5, .int .u64 a6, .int .u64 a7] : Array Value)[o]? := fun x o => by simp [World.cell?, fy x]
    have gw : ∀ (o : Nat), wr.cell? ⟨w.heap.size + 1 + 1 + 1, o, none⟩ = (#[.int .u64 a0, .int .u64 a1, .int .u64 a2, .int .u64 a3, .int .u64 12345, .int .u64 a5, .int .u64 a6, .int .u64 a7] : Array Value)[o]? := fun o => by simp [World.cell?, hy]
    by_cases h8 : k < 8
    · by_cases hm : k = 4
      · have t1 : ((k : Int) != 4) = false := by simp; omega
        clear hm
        go_wp2_with fail
        refine wp_region_aft wr.heap.size (by kernel_rfl) (by kernel_rfl) ?_
        repeat (go_big_quiet_step (fail))
        refine wpQuiet_nil ?_
        rintro _ ⟨x, rfl⟩
        go_wp2
        go_roundw
        case rel => exact ⟨k + 1, by omega, by go_num, hbl.trans (x.below.mono (by omega)), by have := x.size; omega, fx x, fy x⟩
        case measure => simp [intOf]; omega
      · have t1 : ((k : Int) != 4) = true := by simp; omega
        have t2 : (pick [a0, a1, a2, a3, 12345, a5, a6, a7] (k : Int) != pick [a0, a1, a2, a3, a4, a5, a6, a7] (k : Int)) = false := by
          have hh : k = 0 ∨ k = 1 ∨ k = 2 ∨ k = 3 ∨ k = 4 ∨ k = 5 ∨ k = 6 ∨ k = 7 := by omega
          rcases hh with rfl | rfl | rfl | rfl | rfl | rfl | rfl | rfl <;> first | (exact absurd rfl hm) | simp [pick]
        clear hm
        go_wp2_with fail
        refine wp_region_aft wr.heap.size (by kernel_rfl) (by kernel_rfl) ?_
        repeat (go_big_quiet_step ((go_at_call 7; exact calls_aft (Nat.le_refl _) (below1 (get_in _ _ _ _ _ _ _ _ _ _ (by omega) (by omega))))))
        refine wpQuiet_nil ?_
        rintro _ ⟨x, rfl⟩
        go_wp2
        go_roundw
        case rel => exact ⟨k + 1, by omega, by go_num, hbl.trans (x.below.mono (by omega)), by have := x.size; omega, fx x, fy x⟩
        case measure => simp [intOf]; omega
    · go_wp2_with (first
          | (go_at_call 7; refine (get_as _ _ _ _ _ _ _ _ 4 12345 _ (by decide) (by decide) rfl).mono ?_; rintro e w' ⟨rfl, rfl⟩)
          | (go_at_call 11; refine (wakes_true _).mono ?_; rintro e w' ⟨rfl, hb⟩))
      go_ret
      exact ⟨rfl, (hbl.alloc (by omega) _).trans (hb.mono (by simp; omega))⟩

theorem back_5 (l n k0 a0 a1 a2 a3 a4 a5 a6 a7 : Int) (w : World) (i0 : Is64 l) (i1 : Is64 n) (m0 : l % 64 = k0) (m1 : n % 8 = 5) (b0 : 0 ≤ k0) (b1 : k0 ≤ 63) :
    Calls Try.prog 5 #[.int .i64 l, .int .i64 n, .agg #[.int .u64 a0, .int .u64 a1, .int .u64 a2, .int .u64 a3, .int .u64 a4, .int .u64 a5, .int .u64 a6, .int .u64 a7]] w fun e w' => e = .returned (.bool true) ∧ Below w.heap.size w w' := by
  have H0 := Lib.hid m0
  have H1 := Lib.hid m1
  clear m0 m1
  go_enter Try.func5, Try.ntmps5
  try dsimp only [List.append]
  go_wp2_with (first
      | (go_at_call_of 14 (Value.int .i64 64); refine (mod_as _ _ k0 _ i0.1 i0.2 (by decide) (by decide) H0.out).mono ?_; rintro e w' ⟨rfl, rfl⟩)
      | (go_at_call_of 14 (Value.int .i64 8); refine (mod_as _ _ 5 _ i1.1 i1.2 (by decide) (by decide) H1.out).mono ?_; rintro e w' ⟨rfl, rfl⟩)
      | (go_at_call 16; refine (addr_ok _ _ _ b0 b1 (by decide) (by decide)).mono ?_; rintro e w' ⟨rfl, rfl⟩)
      | (go_at_call 15; refine (at_as _ _ k0 5 _ (by omega) (by omega) (by omega) (by omega) (by omega) (by omega) (by omega)).mono ?_; rintro e w' ⟨rfl, rfl⟩)
      | (go_at_call 9; refine (put_5 _ _ _ _ _ _ _ _ _ _).mono ?_; rintro e w' ⟨rfl, c1, c2, rfl⟩))
  go_loopw [13] (fun i wr => ∃ k : Nat, k ≤ 8 ∧ i = .int .i64 k ∧ Below w.heap.size w wr ∧ w.heap.size + 4 ≤ wr.heap.size ∧ wr.heap[w.heap.size]? = some (.cells #[.int .u64 a0, .int .u64 a1, .int .u64 a2, .int .u64 a3, .int .u64 a4, .int .u64 a5, .int .u64 a6, .int .u64 a7] 24) ∧ wr.heap[w.heap.size + 1 + 1 + 1]? = some (.cells #[.int .u64 a0, .int .u64 a1, .int .u64 a2, .int .u64 a3, .int .u64 a4, .int .u64 12345, .int .u64 a6, .int .u64 a7] 24)) (fun i _ => 8 - (intOf i).toNat)
  case atStart =>
    refine ⟨0, by omega, rfl, ?_, by simp, ?_, ?_⟩
    · exact ((((Below.refl _ _).alloc (Nat.le_refl _) _).alloc (by simp) _).alloc (by simp; try omega) _).alloc (by simp; try omega) _
    · rw [Below.heap_alloc _ _ _ (by simp; try omega), Below.heap_alloc _ _ _ (by simp; try omega), Below.heap_alloc _ _ _ (by simp)]; exact (MapKept.heap_alloc _ _).1
    · have h4 := (MapKept.heap_alloc (((w.alloc (.cells #[.int .u64 a0, .int .u64 a1, .int .u64 a2, .int .u64 a3, .int .u64 a4, .int .u64 a5, .int .u64 a6, .int .u64 a7] 24)).alloc (.cells c1 24)).alloc (.cells c2 24)) (.cells #[.int .u64 a0, .int .u64 a1, .int .u64 a2, .int .u64 a3, .int .u64 a4, .int .u64 12345, .int .u64 a6, .int .u64 a7] 24)).1
      simpa using h4
  case round =>
    obtain ⟨k, hk, rfl, hbl, hsz, hx, hy⟩ := hrel
    have fx : ∀ x : Aft wr.heap.size wr, x.w.heap[w.heap.size]? = some (.cells #[.int .u64 a0, .int .u64 a1, .int .u64 a2, .int .u64 a3, .int .u64 a4, .int .u64 a5, .int .u64 a6, .int .u64 a7] 24) := fun x => (x.block (by omega)).trans hx
    have fy : ∀ x : Aft wr.heap.size wr, x.w.heap[w.heap.size + 1 + 1 + 1]? = some (.cells #[.int .u64 a0, .int .u64 a1, .int .u64 a2, .int .u64 a3, .int .u64 a4, .int .u64 12345, .int .u64 a6, .int .u64 a7] 24) := fun x => (x.block (by omega)).trans hy
    have gx : ∀ (x : Aft wr.heap.size wr) (o : Nat), x.w.cell? ⟨w.heap.size, o, none⟩ = (#[.int .u64 a0, .int .u64 a1, .int .u64 a2, .int .u64 a3, .int .u64 a4, .int .u64 a5, .int .u64 a6, .int .u64 a7] : Array Value)[o]? := fun x o => by simp [World.cell?, fx x]
    have gy : ∀ (x : Aft wr.heap.size wr) (o : Nat), x.w.cell? ⟨w.heap.size + 1 + 1 + 1, o, none⟩ = (#[.int .u64 a0, .int .u64 a1, .int .u64 a2, .int .u64 a3, .int .u64 a4, .int .u64 12345, .int .u64 a6, .int .u64 a7] : Array Value)[o]? := fun x o => by simp [World.cell?, fy x]
    have gw : ∀ (o : Nat), wr.cell? ⟨w.heap.size + 1 + 1 + 1, o, none⟩ = (#[.int .u64 a0, .int .u64 a1, .int .u64 a2, .int .u64 a3, .int .u64 a4, .int .u64 12345, .int .u64 a6, .int .u64 a7] : Array Value)[o]? := fun o => by simp [World.cell?, hy]
    by_cases h8 : k < 8
    · by_cases hm : k = 5
      · have t1 : ((k : Int) != 5) = false := by simp; omega
        clear hm
        go_wp2_with fail
        refine wp_region_aft wr.heap.size (by kernel_rfl) (by kernel_rfl) ?_
        repeat (go_big_quiet_step (fail))
        refine wpQuiet_nil ?_
        rintro _ ⟨x, rfl⟩
        go_wp2
        go_roundw
        case rel => exact ⟨k + 1, by omega, by go_num, hbl.trans (x.below.mono (by omega)), by have := x.size; omega, fx x, fy x⟩
        case measure => simp [intOf]; omega
      · have t1 : ((k : Int) != 5) = true := by simp; omega
        have t2 : (pick [a0, a1, a2, a3, a4, 12345, a6, a7] (k : Int) != pick [a0, a1, a2, a3, a4, a5, a6, a7] (k : Int)) = false := by
          have hh : k = 0 ∨ k = 1 ∨ k = 2 ∨ k = 3 ∨ k = 4 ∨ k = 5 ∨ k = 6 ∨ k = 7 := by omega
          rcases hh with rfl | rfl | rfl | rfl | rfl | rfl | rfl | rfl <;> first | (exact absurd rfl hm) | simp [pick]
        clear hm
        go_wp2_with fail
        refine wp_region_aft wr.heap.size (by kernel_rfl) (by kernel_rfl) ?_
        repeat (go_big_quiet_step ((go_at_call 7; exact calls_aft (Nat.le_refl _) (below1 (get_in _ _ _ _ _ _ _ _ _ _ (by omega) (by omega))))))
        refine wpQuiet_nil ?_
        rintro _ ⟨x, rfl⟩
        go_wp2
        go_roundw
        case rel => exact ⟨k + 1, by omega, by go_num, hbl.trans (x.below.mono (by omega)), by have := x.size; omega, fx x, fy x⟩
        case measure => simp [intOf]; omega
    · go_wp2_with (first
          | (go_at_call 7; refine (get_as _ _ _ _ _ _ _ _ 5 12345 _ (by decide) (by decide) rfl).mono ?_; rintro e w' ⟨rfl, rfl⟩)
          | (go_at_call 11; refine (wakes_true _).mono ?_; rintro e w' ⟨rfl, hb⟩))
      go_ret
      exact ⟨rfl, (hbl.alloc (by omega) _).trans (hb.mono (by simp; omega))⟩

theorem back_6 (l n k0 a0 a1 a2 a3 a4 a5 a6 a7 : Int) (w : World) (i0 : Is64 l) (i1 : Is64 n) (m0 : l % 64 = k0) (m1 : n % 8 = 6) (b0 : 0 ≤ k0) (b1 : k0 ≤ 63) :
    Calls Try.prog 5 #[.int .i64 l, .int .i64 n, .agg #[.int .u64 a0, .int .u64 a1, .int .u64 a2, .int .u64 a3, .int .u64 a4, .int .u64 a5, .int .u64 a6, .int .u64 a7]] w fun e w' => e = .returned (.bool true) ∧ Below w.heap.size w w' := by
  have H0 := Lib.hid m0
  have H1 := Lib.hid m1
  clear m0 m1
  go_enter Try.func5, Try.ntmps5
  try dsimp only [List.append]
  go_wp2_with (first
      | (go_at_call_of 14 (Value.int .i64 64); refine (mod_as _ _ k0 _ i0.1 i0.2 (by decide) (by decide) H0.out).mono ?_; rintro e w' ⟨rfl, rfl⟩)
      | (go_at_call_of 14 (Value.int .i64 8); refine (mod_as _ _ 6 _ i1.1 i1.2 (by decide) (by decide) H1.out).mono ?_; rintro e w' ⟨rfl, rfl⟩)
      | (go_at_call 16; refine (addr_ok _ _ _ b0 b1 (by decide) (by decide)).mono ?_; rintro e w' ⟨rfl, rfl⟩)
      | (go_at_call 15; refine (at_as _ _ k0 6 _ (by omega) (by omega) (by omega) (by omega) (by omega) (by omega) (by omega)).mono ?_; rintro e w' ⟨rfl, rfl⟩)
      | (go_at_call 9; refine (put_6 _ _ _ _ _ _ _ _ _ _).mono ?_; rintro e w' ⟨rfl, c1, c2, rfl⟩))
  go_loopw [13] (fun i wr => ∃ k : Nat, k ≤ 8 ∧ i = .int .i64 k ∧ Below w.heap.size w wr ∧ w.heap.size + 4 ≤ wr.heap.size ∧ wr.heap[w.heap.size]? = some (.cells #[.int .u64 a0, .int .u64 a1, .int .u64 a2, .int .u64 a3, .int .u64 a4, .int .u64 a5, .int .u64 a6, .int .u64 a7] 24) ∧ wr.heap[w.heap.size + 1 + 1 + 1]? = some (.cells #[.int .u64 a0, .int .u64 a1, .int .u64 a2, .int .u64 a3, .int .u64 a4, .int .u64 a5, .int .u64 12345, .int .u64 a7] 24)) (fun i _ => 8 - (intOf i).toNat)
  case atStart =>
    refine ⟨0, by omega, rfl, ?_, by simp, ?_, ?_⟩
    · exact ((((Below.refl _ _).alloc (Nat.le_refl _) _).alloc (by simp) _).alloc (by simp; try omega) _).alloc (by simp; try omega) _
    · rw [Below.heap_alloc _ _ _ (by simp; try omega), Below.heap_alloc _ _ _ (by simp; try omega), Below.heap_alloc _ _ _ (by simp)]; exact (MapKept.heap_alloc _ _).1
    · have h4 := (MapKept.heap_alloc (((w.alloc (.cells #[.int .u64 a0, .int .u64 a1, .int .u64 a2, .int .u64 a3, .int .u64 a4, .int .u64 a5, .int .u64 a6, .int .u64 a7] 24)).alloc (.cells c1 24)).alloc (.cells c2 24)) (.cells #[.int .u64 a0, .int .u64 a1, .int .u64 a2, .int .u64 a3, .int .u64 a4, .int .u64 a5, .int .u64 12345, .int .u64 a7] 24)).1
      simpa using h4
  case round =>
    obtain ⟨k, hk, rfl, hbl, hsz, hx, hy⟩ := hrel
    have fx : ∀ x : Aft wr.heap.size wr, x.w.heap[w.heap.size]? = some (.cells #[.int .u64 a0, .int .u64 a1, .int .u64 a2, .int .u64 a3, .int .u64 a4, .int .u64 a5, .int .u64 a6, .int .u64 a7] 24) := fun x => (x.block (by omega)).trans hx
    have fy : ∀ x : Aft wr.heap.size wr, x.w.heap[w.heap.size + 1 + 1 + 1]? = some (.cells #[.int .u64 a0, .int .u64 a1, .int .u64 a2, .int .u64 a3, .int .u64 a4, .int .u64 a5, .int .u64 12345, .int .u64 a7] 24) := fun x => (x.block (by omega)).trans hy
    have gx : ∀ (x : Aft wr.heap.size wr) (o : Nat), x.w.cell? ⟨w.heap.size, o, none⟩ = (#[.int .u64 a0, .int .u64 a1, .int .u64 a2, .int .u64 a3, .int .u64 a4, .int .u64 a5, .int .u64 a6, .int .u64 a7] : Array Value)[o]? := fun x o => by simp [World.cell?, fx x]
    have gy : ∀ (x : Aft wr.heap.size wr) (o : Nat), x.w.cell? ⟨w.heap.size + 1 + 1 + 1, o, none⟩ = (#[.int .u64 a0, .int .u64 a1, .int .u64 a2, .int .u64 a3, .int .u64 a4, .int .u64 a5, .int .u64 12345, .int .u64 a7] : Array Value)[o]? := fun x o => by simp [World.cell?, fy x]
    have gw : ∀ (o : Nat), wr.cell? ⟨w.heap.size + 1 + 1 + 1, o, none⟩ = (#[.int .u64 a0, .int .u64 a1, .int .u64 a2, .int .u64 a3, .int .u64 a4, .int .u64 a5, .int .u64 12345, .int .u64 a7] : Array Value)[o]? := fun o => by simp [World.cell?, hy]
    by_cases h8 : k < 8
    · by_cases hm : k = 6
      · have t1 : ((k : Int) != 6) = false := by simp; omega
        clear hm
        go_wp2_with fail
        refine wp_region_aft wr.heap.size (by kernel_rfl) (by kernel_rfl) ?_
        repeat (go_big_quiet_step (fail))
        refine wpQuiet_nil ?_
        rintro _ ⟨x, rfl⟩
        go_wp2
        go_roundw
        case rel => exact ⟨k + 1, by omega, by go_num, hbl.trans (x.below.mono (by omega)), by have := x.size; omega, fx x, fy x⟩
        case measure => simp [intOf]; omega
      · have t1 : ((k : Int) != 6) = true := by simp; omega
        have t2 : (pick [a0, a1, a2, a3, a4, a5, 12345, a7] (k : Int) != pick [a0, a1, a2, a3, a4, a5, a6, a7] (k : Int)) = false := by
          have hh : k = 0 ∨ k = 1 ∨ k = 2 ∨ k = 3 ∨ k = 4 ∨ k = 5 ∨ k = 6 ∨ k = 7 := by omega
          rcases hh with rfl | rfl | rfl | rfl | rfl | rfl | rfl | rfl <;> first | (exact absurd rfl hm) | simp [pick]
        clear hm
        go_wp2_with fail
        refine wp_region_aft wr.heap.size (by kernel_rfl) (by kernel_rfl) ?_
        repeat (go_big_quiet_step ((go_at_call 7; exact calls_aft (Nat.le_refl _) (below1 (get_in _ _ _ _ _ _ _ _ _ _ (by omega) (by omega))))))
        refine wpQuiet_nil ?_
        rintro _ ⟨x, rfl⟩
        go_wp2
        go_roundw
        case rel => exact ⟨k + 1, by omega, by go_num, hbl.trans (x.below.mono (by omega)), by have := x.size; omega, fx x, fy x⟩
        case measure => simp [intOf]; omega
    · go_wp2_with (first
          | (go_at_call 7; refine (get_as _ _ _ _ _ _ _ _ 6 12345 _ (by decide) (by decide) rfl).mono ?_; rintro e w' ⟨rfl, rfl⟩)
          | (go_at_call 11; refine (wakes_true _).mono ?_; rintro e w' ⟨rfl, hb⟩))
      go_ret
      exact ⟨rfl, (hbl.alloc (by omega) _).trans (hb.mono (by simp; omega))⟩

theorem back_7 (l n k0 a0 a1 a2 a3 a4 a5 a6 a7 : Int) (w : World) (i0 : Is64 l) (i1 : Is64 n) (m0 : l % 64 = k0) (m1 : n % 8 = 7) (b0 : 0 ≤ k0) (b1 : k0 ≤ 63) :
    Calls Try.prog 5 #[.int .i64 l, .int .i64 n, .agg #[.int .u64 a0, .int .u64 a1, .int .u64 a2, .int .u64 a3, .int .u64 a4, .int .u64 a5, .int .u64 a6, .int .u64 a7]] w fun e w' => e = .returned (.bool true) ∧ Below w.heap.size w w' := by
  have H0 := Lib.hid m0
  have H1 := Lib.hid m1
  clear m0 m1
  go_enter Try.func5, Try.ntmps5
  try dsimp only [List.append]
  go_wp2_with (first
      | (go_at_call_of 14 (Value.int .i64 64); refine (mod_as _ _ k0 _ i0.1 i0.2 (by decide) (by decide) H0.out).mono ?_; rintro e w' ⟨rfl, rfl⟩)
      | (go_at_call_of 14 (Value.int .i64 8); refine (mod_as _ _ 7 _ i1.1 i1.2 (by decide) (by decide) H1.out).mono ?_; rintro e w' ⟨rfl, rfl⟩)
      | (go_at_call 16; refine (addr_ok _ _ _ b0 b1 (by decide) (by decide)).mono ?_; rintro e w' ⟨rfl, rfl⟩)
      | (go_at_call 15; refine (at_as _ _ k0 7 _ (by omega) (by omega) (by omega) (by omega) (by omega) (by omega) (by omega)).mono ?_; rintro e w' ⟨rfl, rfl⟩)
      | (go_at_call 9; refine (put_7 _ _ _ _ _ _ _ _ _ _).mono ?_; rintro e w' ⟨rfl, c1, c2, rfl⟩))
  go_loopw [13] (fun i wr => ∃ k : Nat, k ≤ 8 ∧ i = .int .i64 k ∧ Below w.heap.size w wr ∧ w.heap.size + 4 ≤ wr.heap.size ∧ wr.heap[w.heap.size]? = some (.cells #[.int .u64 a0, .int .u64 a1, .int .u64 a2, .int .u64 a3, .int .u64 a4, .int .u64 a5, .int .u64 a6, .int .u64 a7] 24) ∧ wr.heap[w.heap.size + 1 + 1 + 1]? = some (.cells #[.int .u64 a0, .int .u64 a1, .int .u64 a2, .int .u64 a3, .int .u64 a4, .int .u64 a5, .int .u64 a6, .int .u64 12345] 24)) (fun i _ => 8 - (intOf i).toNat)
  case atStart =>
    refine ⟨0, by omega, rfl, ?_, by simp, ?_, ?_⟩
    · exact ((((Below.refl _ _).alloc (Nat.le_refl _) _).alloc (by simp) _).alloc (by simp; try omega) _).alloc (by simp; try omega) _
    · rw [Below.heap_alloc _ _ _ (by simp; try omega), Below.heap_alloc _ _ _ (by simp; try omega), Below.heap_alloc _ _ _ (by simp)]; exact (MapKept.heap_alloc _ _).1
    · have h4 := (MapKept.heap_alloc (((w.alloc (.cells #[.int .u64 a0, .int .u64 a1, .int .u64 a2, .int .u64 a3, .int .u64 a4, .int .u64 a5, .int .u64 a6, .int .u64 a7] 24)).alloc (.cells c1 24)).alloc (.cells c2 24)) (.cells #[.int .u64 a0, .int .u64 a1, .int .u64 a2, .int .u64 a3, .int .u64 a4, .int .u64 a5, .int .u64 a6, .int .u64 12345] 24)).1
      simpa using h4
  case round =>
    obtain ⟨k, hk, rfl, hbl, hsz, hx, hy⟩ := hrel
    have fx : ∀ x : Aft wr.heap.size wr, x.w.heap[w.heap.size]? = some (.cells #[.int .u64 a0, .int .u64 a1, .int .u64 a2, .int .u64 a3, .int .u64 a4, .int .u64 a5, .int .u64 a6, .int .u64 a7] 24) := fun x => (x.block (by omega)).trans hx
    have fy : ∀ x : Aft wr.heap.size wr, x.w.heap[w.heap.size + 1 + 1 + 1]? = some (.cells #[.int .u64 a0, .int .u64 a1, .int .u64 a2, .int .u64 a3, .int .u64 a4, .int .u64 a5, .int .u64 a6, .int .u64 12345] 24) := fun x => (x.block (by omega)).trans hy
    have gx : ∀ (x : Aft wr.heap.size wr) (o : Nat), x.w.cell? ⟨w.heap.size, o, none⟩ = (#[.int .u64 a0, .int .u64 a1, .int .u64 a2, .int .u64 a3, .int .u64 a4, .int .u64 a5, .int .u64 a6, .int .u64 a7] : Array Value)[o]? := fun x o => by simp [World.cell?, fx x]
    have gy : ∀ (x : Aft wr.heap.size wr) (o : Nat), x.w.cell? ⟨w.heap.size + 1 + 1 + 1, o, none⟩ = (#[.int .u64 a0, .int .u64 a1, .int .u64 a2, .int .u64 a3, .int .u64 a4, .int .u64 a5, .int .u64 a6, .int .u64 12345] : Array Value)[o]? := fun x o => by simp [World.cell?, fy x]
    have gw : ∀ (o : Nat), wr.cell? ⟨w.heap.size + 1 + 1 + 1, o, none⟩ = (#[.int .u64 a0, .int .u64 a1, .int .u64 a2, .int .u64 a3, .int .u64 a4, .int .u64 a5, .int .u64 a6, .int .u64 12345] : Array Value)[o]? := fun o => by simp [World.cell?, hy]
    by_cases h8 : k < 8
    · by_cases hm : k = 7
      · have t1 : ((k : Int) != 7) = false := by simp; omega
        clear hm
        go_wp2_with fail
        refine wp_region_aft wr.heap.size (by kernel_rfl) (by kernel_rfl) ?_
        repeat (go_big_quiet_step (fail))
        refine wpQuiet_nil ?_
        rintro _ ⟨x, rfl⟩
        go_wp2
        go_roundw
        case rel => exact ⟨k + 1, by omega, by go_num, hbl.trans (x.below.mono (by omega)), by have := x.size; omega, fx x, fy x⟩
        case measure => simp [intOf]; omega
      · have t1 : ((k : Int) != 7) = true := by simp; omega
        have t2 : (pick [a0, a1, a2, a3, a4, a5, a6, 12345] (k : Int) != pick [a0, a1, a2, a3, a4, a5, a6, a7] (k : Int)) = false := by
          have hh : k = 0 ∨ k = 1 ∨ k = 2 ∨ k = 3 ∨ k = 4 ∨ k = 5 ∨ k = 6 ∨ k = 7 := by omega
          rcases hh with rfl | rfl | rfl | rfl | rfl | rfl | rfl | rfl <;> first | (exact absurd rfl hm) | simp [pick]
        clear hm
        go_wp2_with fail
        refine wp_region_aft wr.heap.size (by kernel_rfl) (by kernel_rfl) ?_
        repeat (go_big_quiet_step ((go_at_call 7; exact calls_aft (Nat.le_refl _) (below1 (get_in _ _ _ _ _ _ _ _ _ _ (by omega) (by omega))))))
        refine wpQuiet_nil ?_
        rintro _ ⟨x, rfl⟩
        go_wp2
        go_roundw
        case rel => exact ⟨k + 1, by omega, by go_num, hbl.trans (x.below.mono (by omega)), by have := x.size; omega, fx x, fy x⟩
        case measure => simp [intOf]; omega
    · go_wp2_with (first
          | (go_at_call 7; refine (get_as _ _ _ _ _ _ _ _ 7 12345 _ (by decide) (by decide) rfl).mono ?_; rintro e w' ⟨rfl, rfl⟩)
          | (go_at_call 11; refine (wakes_true _).mono ?_; rintro e w' ⟨rfl, hb⟩))
      go_ret
      exact ⟨rfl, (hbl.alloc (by omega) _).trans (hb.mono (by simp; omega))⟩
end Go.Proofs.Ytaidbofadmefkaa
