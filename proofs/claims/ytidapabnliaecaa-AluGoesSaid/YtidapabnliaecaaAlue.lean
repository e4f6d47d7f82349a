/- AluShifts, AluDoes: walked. No condition. -/
import Derived.Test.YtidapabnliaecaaAlud
namespace Go.Proofs.Ytidapabnliaecaa
open Go.RowKit
set_option linter.unusedVariables false
set_option maxHeartbeats 1000000
attribute [local go_sem ↓] cell_row frozen_row heap_drew heap_drewN heap_alloc heap_past heap_setCell heap_putRow
attribute [local go_sem] rowCell_some rowFrozen_some rowHas_some rowIn_some rowPart_full rowPart_lit rowPut_full rowPut_lit rowSet_some size_putRow run_loadS run_storeS loadW_at storeW_at fit_all fit_le one_int one_bool one_pointer one_slice allOne_list putRow_new ne_size1 ne_size2 ne_size3 ne_size4
attribute [local simp ↓] heap_drew heap_drewN heap_alloc heap_past heap_setCell heap_putRow
attribute [local simp] rowCell_some rowFrozen_some rowHas_some rowIn_some rowPart_full rowPart_lit rowPut_full rowPut_lit rowSet_some size_putRow fit_all putRow_new ne_size1 ne_size2 ne_size3 ne_size4

attribute [local go_sem ↓] loadDid storeDid loadJump storeJump
attribute [local go_sem] wideDid wideJump
theorem shifts_any (a k : Int) (a0 : 0 ≤ a) (a1 : a < 18446744073709551616) (k0 : 0 ≤ k) (k1 : k < 256) (w : World) :
    Calls Try.prog 6 #[.int .u64 a, .int .u8 k] w fun e w' => e = .returned (.bool true) ∧ Below w.heap.size w w' := by
  have q4 : doK 4 = true := rfl
  have q5 : doK 5 = true := rfl
  have q6 : doK 6 = true := rfl
  have q7 : doK 7 = true := rfl
  have d4 : ∀ x y, doV 4 x y = bits .and .u64 x y := fun _ _ => rfl
  have d5 : ∀ x y, doV 5 x y = bits .xor .u64 x y := fun _ _ => rfl
  obtain ⟨N, hN, hN64⟩ : ∃ N : Nat, k % 64 = (N : Int) ∧ N < 64 := ⟨(k % 64).toNat, by omega, by omega⟩
  have hNw : IntKind.u64.wrap (N : Int) = N := by rw [IntKind.wrap_u64]; omega
  have hNx : IntKind.u64.wrap ((N : Int) + 64) = (N : Int) + 64 := by rw [IntKind.wrap_u64]; omega
  have e1 : doV 6 a (N : Int) = IntKind.u64.wrap (a * 2 ^ N) := by simp only [doV]; rw [show ((N : Int) % 64).toNat = N by omega]; rfl
  have e2 : doV 7 a ((N : Int) + 64) = a / 2 ^ N := by simp only [doV]; rw [show (((N : Int) + 64) % 64).toNat = N by omega]; rfl
  have e3 : doV 6 a 64 = a := wrap_in a0 a1
  have e4 := and_self64 a0 a1
  have e5 := xor_self64 a0 a1
  have p0 : (0 : Int) ≤ (N : Int) := by omega
  have p1 : (0 : Int) ≤ (N : Int) + 64 := by omega
  have hM : ∀ {x : World}, Chg [] w x → Chg [] w (mapW x 10) := fun h => h.trans (Chg.mapW _ _)
  have hW := wrap_in a0 a1
  have hs1 : ∀ i : Nat, doV 6 (IntKind.u64.wrap (a * 2 ^ i)) 1 = IntKind.u64.wrap (a * 2 ^ (i + 1)) := fun i => wrap_twice a i
  have hs2 : ∀ i : Nat, doV 7 (a / 2 ^ i) 1 = a / 2 ^ (i + 1) := fun i => half_twice a i
  clear k1 a1 
  go_enter Try.func6, Try.ntmps6
  try dsimp only [List.append]
  go_wp2_with fail
  go_loopw [6, 7, 8] (fun l r i wr => ∃ j : Nat, j ≤ N ∧ i = .int .u64 j ∧ l = .int .u64 (IntKind.u64.wrap (a * 2 ^ j)) ∧ r = .int .u64 (a / 2 ^ j) ∧ Chg [] w wr) (fun _ _ i _ => N - (intOf i).toNat)
  case atStart => exact ⟨0, by omega, rfl, by rw [hW], by rw [Int.pow_zero, Int.ediv_one], Chg.refl _ _⟩
  case round =>
    obtain ⟨j, hj, rfl, rfl, rfl, cw⟩ := hrel
    by_cases hlt : j < N
    · have g1 : (j : Int) < (N : Int) := by omega
      have g0 : (0 : Int) ≤ (j : Int) := by omega
      have g2 : (j : Int) ≤ 64 := by omega
      have f1 := hs1 j
      have f2 := hs2 j
      go_wp2_with (go_at_call 7; refine (gdo_any _ _ _ (by decide) _).mono ?_; rintro e w1 ⟨rfl, rfl⟩)
      refine ⟨?_, ?measure⟩
      rotate_right
      · simp [intOf]; omega
      try simp only [hN]
      iterate 18 (apply Exists.intro)
      refine ⟨?rel, rfl⟩
      case rel => exact ⟨j + 1, by omega, by go_num, rfl, rfl, hM (hM cw)⟩
    · obtain rfl : j = N := by omega
      go_wp2_with (first | (go_at_call 7; refine (gdo_any _ _ _ (by first | assumption | decide) _).mono ?_; rintro e w1 ⟨rfl, rfl⟩) | (go_at_call 10; refine (wakes_any _).mono ?_; rintro e w3 ⟨rfl, c3⟩))
      go_ret
      exact ⟨rfl, ((hM (hM (hM (hM (hM cw))))).trans c3).below (Nat.le_refl _) (by simp)⟩

theorem calls_aft_below {P : Program} {f : FuncId} {args : Array Value} {N : Nat} {W : World} {x : Aft N W} {v : Value} (hN : N ≤ W.heap.size)
    (h : Calls P f args x.w fun e w' => e = .returned v ∧ Chg [] x.w w') : Calls P f args x.w fun e w'' => e = .returned v ∧ ∃ y : Aft N W, w'' = y.w :=
  calls_aft hN (h.mono fun _ _ ⟨he, hc⟩ => ⟨he, hc.below (Nat.le_refl _) (by simp)⟩)
theorem gdo_chg (op b c : Int) (hc : 0 ≤ c) (w : World) : Calls Try.prog 7 #[.int .i64 op, .int .u64 b, .int .u64 c] w fun e w' => e = .returned (.tuple #[.int .u64 (doV op b c), .bool (doK op)]) ∧ Chg [] w w' :=
  (gdo_any op b c hc w).mono fun e w' h => ⟨h.1, by rw [h.2]; exact Chg.mapW _ _⟩
set_option maxRecDepth 100000 in
theorem does_any (op a b imm : Int) (a0 : 0 ≤ a) (a1 : a < 18446744073709551616) (b0 : 0 ≤ b) (W : World) :
    Calls Try.prog 3 #[.int .i64 op, .agg #[.int .u64 a, .int .u64 b], .int .i64 imm] W fun e w' => e = .returned (.bool true) ∧ Below W.heap.size W w' := by
  go_enter Try.func3, Try.ntmps3
  try dsimp only [List.append]
  go_wp2_with fail
  have r0 : (W.alloc (.cells #[.int .u64 a, .int .u64 b] 23)).heap[W.heap.size]? = some (.cells #[.int .u64 a, .int .u64 b] 23 (0, 0)) := by simp
  have C0 := Lib.hid ((Chg.refl [] W).alloc (.cells #[.int .u64 a, .int .u64 b] 23))
  have S0 := Lib.hid (show W.heap.size ≤ W.heap.size from Nat.le_refl _)
  generalize hp : W.heap.size = p0 at r0 S0 ⊢
  generalize W.alloc (.cells #[.int .u64 a, .int .u64 b] 23) = w0 at r0 C0 ⊢
  refine (gdo_chg op a b b0 _).mono ?_
  rintro e w1 ⟨rfl, c1⟩
  have r1 := c1.keep r0 (by simp)
  have C1 := Lib.hid (C0.out.trans c1)
  clear r0 C0 c1
  go_wp2_with fail
  refine (rdo_any op a b a0 a1 b0 _).mono ?_
  rintro e w2 ⟨rfl, c2⟩
  have r2 := c2.keep r1 (by simp)
  have C2 := Lib.hid (C1.out.trans c2)
  clear r1 C1 c2
  go_wp2_with fail
  have r3 : (w2.alloc (.cells #[.int .u64 (doV op a b), .bool (doK op)] 27)).heap[p0]? = some (.cells #[.int .u64 a, .int .u64 b] 23 (0, 0)) := ((Chg.refl [] w2).alloc _).keep r2 (by simp)
  have s3 : (w2.alloc (.cells #[.int .u64 (doV op a b), .bool (doK op)] 27)).heap[w2.heap.size]? = some (.cells #[.int .u64 (doV op a b), .bool (doK op)] 27 (0, 0)) := by simp
  have C3 := Lib.hid (C2.out.alloc (.cells #[.int .u64 (doV op a b), .bool (doK op)] 27))
  clear r2 C2
  generalize w2.alloc (.cells #[.int .u64 (doV op a b), .bool (doK op)] 27) = w3 at r3 s3 C3 ⊢
  generalize w2.heap.size = q0 at s3 ⊢
  have hr : ∀ x : Aft w3.heap.size w3, x.w.heap[p0]? = some (.cells #[.int .u64 a, .int .u64 b] 23 (0, 0)) := fun x => (x.block (old r3).lt).trans r3
  have hs : ∀ x : Aft w3.heap.size w3, x.w.heap[q0]? = some (.cells #[.int .u64 (doV op a b), .bool (doK op)] 27 (0, 0)) := fun x => (x.block (old s3).lt).trans s3
  refine wp_region_aft w3.heap.size (by kernel_rfl) (by kernel_rfl) ?_
  repeat (go_big_quiet_step (first
     | (go_at_call 9; exact calls_aft_same (gsum_any _ _ _))
     | (go_at_call 10; exact calls_aft_below (Nat.le_refl _) (wakes_any _))))
  refine wpQuiet_nil ?_
  rintro _ ⟨x, rfl⟩
  go_wp2_with fail
  go_ret
  exact ⟨rfl, (C3.out.trans (Below.chg x.below (Nat.le_refl _))).below (by omega) (by simp)⟩
end Go.Proofs.Ytidapabnliaecaa
