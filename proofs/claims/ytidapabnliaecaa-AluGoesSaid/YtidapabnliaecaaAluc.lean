/- What the document says that operations reckon. No condition. -/
import Derived.Test.YtidapabnliaecaaAlub
import Derived.Laws.Bits64
namespace Go.Proofs.Ytidapabnliaecaa
open Go.RowKit
set_option linter.unusedVariables false
set_option maxHeartbeats 1000000
attribute [local go_sem ↓] cell_row frozen_row heap_drew heap_drewN heap_alloc heap_past heap_setCell heap_putRow
attribute [local go_sem] rowCell_some rowFrozen_some rowHas_some rowIn_some rowPart_full rowPart_lit rowPut_full rowPut_lit rowSet_some size_putRow run_loadS run_storeS loadW_at storeW_at fit_all fit_le one_int one_bool one_pointer one_slice allOne_list putRow_new ne_size1 ne_size2 ne_size3 ne_size4
attribute [local simp ↓] heap_drew heap_drewN heap_alloc heap_past heap_setCell heap_putRow
attribute [local simp] rowCell_some rowFrozen_some rowHas_some rowIn_some rowPart_full rowPart_lit rowPut_full rowPut_lit rowSet_some size_putRow fit_all putRow_new ne_size1 ne_size2 ne_size3 ne_size4

theorem wideDid : Wide Try.prog 27 2 := ⟨⟨_, Try.underlying27, by rfl⟩, by kernel_rfl⟩
theorem loadDid (x : Value) : Instr.loadAt 27 x = loadS 27 2 x := rfl
theorem storeDid (x y : Value) : Instr.storeAt 27 x y = storeS 27 2 x y := rfl
theorem wideJump : Wide Try.prog 35 2 := ⟨⟨_, Try.underlying35, by rfl⟩, by kernel_rfl⟩
theorem loadJump (x : Value) : Instr.loadAt 35 x = loadS 35 2 x := rfl
theorem storeJump (x y : Value) : Instr.storeAt 35 x y = storeS 35 2 x y := rfl
attribute [local go_sem ↓] loadDid storeDid loadJump storeJump
attribute [local go_sem] wideDid wideJump
theorem results_did {fn : Func} {p : Tmp} (h : fn.results = #[.cell p 27]) (tmps : Array Value) (w : World) (b : Nat) (u v : Value) (fr : Nat × Nat)
    (hp : tmps.getD p undef = .pointer (some ⟨b, 0, none⟩)) (hb : w.heap[b]? = some (.cells #[u, v] 27 fr)) :
    (results fn tmps).run Try.prog w = .ok (.agg #[u, v]) w := by
  have hp' : tmps[p]?.getD undef = .pointer (some ⟨b, 0, none⟩) := by simpa using hp
  have := run_loadVar_row (P := Try.prog) w b 27 27 #[u, v] fr _ hb Try.underlying27 rfl (by kernel_rfl)
  simp [results, h, hp', asAddr, this]
theorem results_jump {fn : Func} {p : Tmp} (h : fn.results = #[.cell p 35]) (tmps : Array Value) (w : World) (b : Nat) (u v : Value) (fr : Nat × Nat)
    (hp : tmps.getD p undef = .pointer (some ⟨b, 0, none⟩)) (hb : w.heap[b]? = some (.cells #[u, v] 35 fr)) :
    (results fn tmps).run Try.prog w = .ok (.agg #[u, v]) w := by
  have hp' : tmps[p]?.getD undef = .pointer (some ⟨b, 0, none⟩) := by simpa using hp
  have := run_loadVar_row (P := Try.prog) w b 35 35 #[u, v] fr _ hb Try.underlying35 rfl (by kernel_rfl)
  simp [results, h, hp', asAddr, this]
theorem rgo_any (op a b : Int) (w : World) : Calls Try.prog 12 #[.int .i64 op, .int .u64 a, .int .u64 b] w fun e w' => e = .returned (.agg #[.bool (goV op a b), .bool (goK op)]) ∧ Chg [] w w' := by
  by_cases h17 : op = 17
  · subst h17
    go_enter Try.func12, Try.ntmps12
    go_wp2_with fail
    refine bodyPost_ret (results_jump (by rfl) _ _ (w.heap.size) (.bool true) (.bool true) (0, 0) (by rfl) (by simp; try rfl)) (by rfl) ?_
    exact ⟨rfl, (Chg.refl [] w).alloc _⟩
  by_cases h18 : op = 18
  · subst h18
    go_enter Try.func12, Try.ntmps12
    go_wp2_with fail
    refine bodyPost_ret (results_jump (by rfl) _ _ (w.heap.size) (.bool (a == b)) (.bool true) (0, 0) (by rfl) (by simp; try rfl)) (by rfl) ?_
    exact ⟨rfl, (Chg.refl [] w).alloc _⟩
  by_cases h19 : op = 19
  · subst h19
    go_enter Try.func12, Try.ntmps12
    go_wp2_with fail
    refine bodyPost_ret (results_jump (by rfl) _ _ (w.heap.size) (.bool (a != b)) (.bool true) (0, 0) (by rfl) (by simp; try rfl)) (by rfl) ?_
    exact ⟨rfl, (Chg.refl [] w).alloc _⟩
  by_cases h20 : op = 20
  · subst h20
    go_enter Try.func12, Try.ntmps12
    go_wp2_with fail
    refine bodyPost_ret (results_jump (by rfl) _ _ (w.heap.size) (.bool (decide (a < b))) (.bool true) (0, 0) (by rfl) (by simp; try rfl)) (by rfl) ?_
    exact ⟨rfl, (Chg.refl [] w).alloc _⟩
  rw [show goV op a b = false by simp [goV, h17, h18, h19, h20], show goK op = false by simp [goK, h17, h18, h19, h20]]
  have e17 : (op == 17) = false := by simpa using h17
  have e18 : (op == 18) = false := by simpa using h18
  have e19 : (op == 19) = false := by simpa using h19
  have e20 : (op == 20) = false := by simpa using h20
  clear h17 h18 h19 h20
  go_enter Try.func12, Try.ntmps12
  go_wp2_with fail
  refine bodyPost_ret (results_jump (by rfl) _ _ (w.heap.size) (.bool false) (.bool false) (0, 0) (by rfl) (by simp; try rfl)) (by rfl) ?_
  exact ⟨rfl, (Chg.refl [] w).alloc _⟩
theorem wrap_twice (b : Int) (k : Nat) : IntKind.u64.wrap (IntKind.u64.wrap (b * 2 ^ k) * 2) = IntKind.u64.wrap (b * 2 ^ (k + 1)) := by
  rw [IntKind.wrap_u64, IntKind.wrap_u64, IntKind.wrap_u64, Int.pow_succ, ← Int.mul_assoc]
  generalize b * 2 ^ k = n
  omega
theorem half_twice (b : Int) (k : Nat) : b / 2 ^ k / 2 = b / 2 ^ (k + 1) := by
  rw [Int.pow_succ]
  exact Int.ediv_ediv_of_nonneg (Int.pow_nonneg (by decide))
theorem half_wrap {b : Int} (h0 : 0 ≤ b) (h1 : b < 18446744073709551616) (k : Nat) : IntKind.u64.wrap ((b / 2 ^ k).tdiv 2) = b / 2 ^ (k + 1) := by
  have hp : (0 : Int) ≤ b / 2 ^ k := Int.ediv_nonneg h0 (Int.pow_nonneg (by decide))
  have hle : b / 2 ^ k ≤ b := Int.ediv_le_self _ h0
  rw [Int.tdiv_eq_ediv_of_nonneg hp, IntKind.wrap_u64, ← half_twice]
  generalize b / 2 ^ k = n at hp hle
  omega
theorem wrap_in {b : Int} (h0 : 0 ≤ b) (h1 : b < 18446744073709551616) : IntKind.u64.wrap (b * 2 ^ 0) = b := by
  rw [IntKind.wrap_u64, Int.pow_zero, Int.mul_one]
  omega
theorem rdo_any (op b c : Int) (h0 : 0 ≤ b) (h1 : b < 18446744073709551616) (hc : 0 ≤ c) (w : World) : Calls Try.prog 8 #[.int .i64 op, .int .u64 b, .int .u64 c] w fun e w' => e = .returned (.agg #[.int .u64 (doV op b c), .bool (doK op)]) ∧ Chg [] w w' := by
  obtain ⟨N, hN, hN64⟩ : ∃ N : Nat, c % 64 = (N : Int) ∧ N < 64 := ⟨(c % 64).toNat, by omega, by omega⟩
  by_cases h2 : op = 2
  · subst h2
    go_enter Try.func8, Try.ntmps8
    go_wp2_with fail
    refine bodyPost_ret (results_did (by rfl) _ _ (w.heap.size) (.int .u64 (IntKind.u64.wrap (b + c))) (.bool true) (0, 0) (by rfl) (by simp; try rfl)) (by rfl) ?_
    exact ⟨rfl, (Chg.refl [] w).alloc _⟩
  by_cases h3 : op = 3
  · subst h3
    go_enter Try.func8, Try.ntmps8
    go_wp2_with fail
    refine bodyPost_ret (results_did (by rfl) _ _ (w.heap.size) (.int .u64 (IntKind.u64.wrap (b - c))) (.bool true) (0, 0) (by rfl) (by simp; try rfl)) (by rfl) ?_
    exact ⟨rfl, (Chg.refl [] w).alloc _⟩
  by_cases h4 : op = 4
  · subst h4
    go_enter Try.func8, Try.ntmps8
    go_wp2_with fail
    refine bodyPost_ret (results_did (by rfl) _ _ (w.heap.size) (.int .u64 (bits .and .u64 b c)) (.bool true) (0, 0) (by rfl) (by simp; try rfl)) (by rfl) ?_
    exact ⟨rfl, (Chg.refl [] w).alloc _⟩
  by_cases h5 : op = 5
  · subst h5
    go_enter Try.func8, Try.ntmps8
    go_wp2_with fail
    refine bodyPost_ret (results_did (by rfl) _ _ (w.heap.size) (.int .u64 (bits .xor .u64 b c)) (.bool true) (0, 0) (by rfl) (by simp; try rfl)) (by rfl) ?_
    exact ⟨rfl, (Chg.refl [] w).alloc _⟩
  by_cases h6 : op = 6
  · subst h6
    rw [show doV 6 b c = IntKind.u64.wrap (b * 2 ^ N) by simp [doV, hN], show doK 6 = true from rfl]
    go_enter Try.func8, Try.ntmps8
    go_wp2_with fail
    go_loop [1, 7] (fun x i => ∃ k : Nat, k ≤ N ∧ i = .int .u64 k ∧ x = .int .u64 (IntKind.u64.wrap (b * 2 ^ k))) (fun _ i => N - (intOf i).toNat)
    case atStart => exact ⟨0, by omega, rfl, by rw [wrap_in h0 h1]⟩
    case round =>
      obtain ⟨k, hk, rfl, rfl⟩ := hrel
      have hs := wrap_twice b k
      by_cases hlt : k < N
      · have g1 : (k : Int) < (N : Int) := by omega
        have g2 : (k : Int) ≤ 64 := by omega
        have g0 : (0 : Int) ≤ (k : Int) := by omega
        go_wp2_with fail
        go_round
        case rel => exact ⟨k + 1, by omega, by go_num, by first | rfl | rw [← hs]⟩
        case measure => simp [intOf]; omega
      · obtain rfl : k = N := by omega
        go_wp2_with fail
        refine bodyPost_ret (results_did (by rfl) _ _ (w.heap.size) (.int .u64 (IntKind.u64.wrap (b * 2 ^ k))) (.bool true) (0, 0) (by rfl) (by simp; try rfl)) (by rfl) ?_
        exact ⟨rfl, (Chg.refl [] w).alloc _⟩
  by_cases h7 : op = 7
  · subst h7
    rw [show doV 7 b c = b / 2 ^ N by simp [doV, hN], show doK 7 = true from rfl]
    go_enter Try.func8, Try.ntmps8
    go_wp2_with fail
    go_loop [1, 8] (fun x i => ∃ k : Nat, k ≤ N ∧ i = .int .u64 k ∧ x = .int .u64 (b / 2 ^ k)) (fun _ i => N - (intOf i).toNat)
    case atStart => exact ⟨0, by omega, rfl, by rw [Int.pow_zero, Int.ediv_one]⟩
    case round =>
      obtain ⟨k, hk, rfl, rfl⟩ := hrel
      have hs := half_wrap h0 h1 k
      by_cases hlt : k < N
      · have g1 : (k : Int) < (N : Int) := by omega
        have g2 : (k : Int) ≤ 64 := by omega
        have g0 : (0 : Int) ≤ (k : Int) := by omega
        go_wp2_with fail
        go_round
        case rel => exact ⟨k + 1, by omega, by go_num, by first | rfl | rw [hs]⟩
        case measure => simp [intOf]; omega
      · obtain rfl : k = N := by omega
        go_wp2_with fail
        refine bodyPost_ret (results_did (by rfl) _ _ (w.heap.size) (.int .u64 (b / 2 ^ k)) (.bool true) (0, 0) (by rfl) (by simp; try rfl)) (by rfl) ?_
        exact ⟨rfl, (Chg.refl [] w).alloc _⟩
  rw [show doV op b c = 0 by simp [doV, h2, h3, h4, h5, h6, h7], show doK op = false by simp [doK, h2, h3, h4, h5, h6, h7]]
  have e2 : (op == 2) = false := by simpa using h2
  have e3 : (op == 3) = false := by simpa using h3
  have e4 : (op == 4) = false := by simpa using h4
  have e5 : (op == 5) = false := by simpa using h5
  have e6 : (op == 6) = false := by simpa using h6
  have e7 : (op == 7) = false := by simpa using h7
  clear h2 h3 h4 h5 h6 h7
  go_enter Try.func8, Try.ntmps8
  go_wp2_with fail
  refine bodyPost_ret (results_did (by rfl) _ _ (w.heap.size) (.int .u64 0) (.bool false) (0, 0) (by rfl) (by simp; try rfl)) (by rfl) ?_
  exact ⟨rfl, (Chg.refl [] w).alloc _⟩
end Go.Proofs.Ytidapabnliaecaa
