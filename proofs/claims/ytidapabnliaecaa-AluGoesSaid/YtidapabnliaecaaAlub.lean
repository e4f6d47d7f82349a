/- What operations reckon. No condition. -/
import Derived.Test.YtidapabnliaecaaAlu
import Derived.Lib.Hide
namespace Go.Proofs.Ytidapabnliaecaa
open Go.RowKit
set_option linter.unusedVariables false
set_option maxHeartbeats 1000000

/-! ### The operations, one by one -/
theorem fadd (x y : Int) (w : World) : Calls Try.prog 14 #[.int .u64 x, .int .u64 y] w fun e w' => e = .returned (.int .u64 (IntKind.u64.wrap (x + y))) ∧ w = w' := by
  go_enter Try.func14, Try.ntmps14
  go_wp2
  go_ret
  exact ⟨rfl, rfl⟩
theorem fsub (x y : Int) (w : World) : Calls Try.prog 15 #[.int .u64 x, .int .u64 y] w fun e w' => e = .returned (.int .u64 (IntKind.u64.wrap (x - y))) ∧ w = w' := by
  go_enter Try.func15, Try.ntmps15
  go_wp2
  go_ret
  exact ⟨rfl, rfl⟩
theorem fand (x y : Int) (w : World) : Calls Try.prog 16 #[.int .u64 x, .int .u64 y] w fun e w' => e = .returned (.int .u64 (bits .and .u64 x y)) ∧ w = w' := by
  go_enter Try.func16, Try.ntmps16
  go_wp2
  go_ret
  exact ⟨rfl, rfl⟩
theorem fxor (x y : Int) (w : World) : Calls Try.prog 17 #[.int .u64 x, .int .u64 y] w fun e w' => e = .returned (.int .u64 (bits .xor .u64 x y)) ∧ w = w' := by
  go_enter Try.func17, Try.ntmps17
  go_wp2
  go_ret
  exact ⟨rfl, rfl⟩
theorem fshl (x y : Int) (hy : 0 ≤ y) (w : World) : Calls Try.prog 18 #[.int .u64 x, .int .u64 y] w fun e w' => e = .returned (.int .u64 (IntKind.u64.wrap (x * 2 ^ (y % 64).toNat))) ∧ w = w' := by
  have h1 : 0 ≤ y % 64 := by omega
  have h2 : (y % 64).toNat < 64 := by omega
  go_enter Try.func18, Try.ntmps18
  go_wp2
  go_ret
  exact ⟨rfl, rfl⟩
theorem fshr (x y : Int) (hy : 0 ≤ y) (w : World) : Calls Try.prog 19 #[.int .u64 x, .int .u64 y] w fun e w' => e = .returned (.int .u64 (x / 2 ^ (y % 64).toNat)) ∧ w = w' := by
  have h1 : 0 ≤ y % 64 := by omega
  have h2 : (y % 64).toNat < 64 := by omega
  go_enter Try.func19, Try.ntmps19
  go_wp2
  go_ret
  exact ⟨rfl, rfl⟩
theorem fjmp (x y : Int) (w : World) : Calls Try.prog 20 #[.int .u64 x, .int .u64 y] w fun e w' => e = .returned (.bool (true)) ∧ w = w' := by
  go_enter Try.func20, Try.ntmps20
  go_wp2
  go_ret
  exact ⟨rfl, rfl⟩
theorem feq (x y : Int) (w : World) : Calls Try.prog 21 #[.int .u64 x, .int .u64 y] w fun e w' => e = .returned (.bool (x == y)) ∧ w = w' := by
  go_enter Try.func21, Try.ntmps21
  go_wp2
  go_ret
  exact ⟨rfl, rfl⟩
theorem fne (x y : Int) (w : World) : Calls Try.prog 22 #[.int .u64 x, .int .u64 y] w fun e w' => e = .returned (.bool (x != y)) ∧ w = w' := by
  go_enter Try.func22, Try.ntmps22
  go_wp2
  go_ret
  exact ⟨rfl, rfl⟩
theorem flt (x y : Int) (w : World) : Calls Try.prog 23 #[.int .u64 x, .int .u64 y] w fun e w' => e = .returned (.bool (decide (x < y))) ∧ w = w' := by
  go_enter Try.func23, Try.ntmps23
  go_wp2
  go_ret
  exact ⟨rfl, rfl⟩
/-- What an operation reckons. -/
def doV (op b c : Int) : Int := if op = 2 then IntKind.u64.wrap (b + c) else if op = 3 then IntKind.u64.wrap (b - c) else if op = 4 then bits .and .u64 b c else if op = 5 then bits .xor .u64 b c else if op = 6 then IntKind.u64.wrap (b * 2 ^ (c % 64).toNat) else if op = 7 then b / 2 ^ (c % 64).toNat else 0
/-- Does it reckon? -/
def doK (op : Int) : Bool := decide (op = 2 ∨ op = 3 ∨ op = 4 ∨ op = 5 ∨ op = 6 ∨ op = 7)
/-- Does a jump go? -/
def goV (op a b : Int) : Bool := if op = 17 then true else if op = 18 then a == b else if op = 19 then a != b else if op = 20 then decide (a < b) else false
/-- Is it a jump? -/
def goK (op : Int) : Bool := decide (op = 17 ∨ op = 18 ∨ op = 19 ∨ op = 20)
theorem field_r (r g : Value) (w : World) : (Instr.field 43 (.agg #[r, g]) 0).run Try.prog w = .ok r w := by kernel_rfl
theorem field_g (r g : Value) (w : World) : (Instr.field 43 (.agg #[r, g]) 1).run Try.prog w = .ok g w := by kernel_rfl
theorem some_r (n : Nat) (w : World) : (binOp .eql 40 (.func (.func n) #[] #[]) .nilFunc).run Try.prog w = .ok (.bool false) w := by kernel_rfl
theorem nil_r (w : World) : (binOp .eql 40 .nilFunc .nilFunc).run Try.prog w = .ok (.bool true) w := by kernel_rfl
theorem some_g (n : Nat) (w : World) : (binOp .eql 41 (.func (.func n) #[] #[]) .nilFunc).run Try.prog w = .ok (.bool false) w := by kernel_rfl
theorem nil_g (w : World) : (binOp .eql 41 .nilFunc .nilFunc).run Try.prog w = .ok (.bool true) w := by kernel_rfl
theorem gdo_any (op b c : Int) (hc : 0 ≤ c) (w : World) : Calls Try.prog 7 #[.int .i64 op, .int .u64 b, .int .u64 c] w fun e w' => e = .returned (.tuple #[.int .u64 (doV op b c), .bool (doK op)]) ∧ w' = mapW w 10 := by
  have hl := look_map op w
  by_cases h2 : op = 2
  · subst h2
    rw [show recF 2 = .func (.func 14) #[] #[] from rfl] at hl
    have hf := field_r (.func (.func 14) #[] #[]) (goF 2) (mapW w 10)
    have hn := some_r 14 (mapW w 10)
    go_enter Try.func7, Try.ntmps7
    go_wp2_with (first | (go_at_call 13; refine (ops_any _).mono ?_; rintro e w' ⟨rfl, rfl⟩) | (go_at_call 14; refine (fadd _ _  _).mono ?_; rintro e w' ⟨rfl, rfl⟩))
    go_ret2
    exact ⟨rfl, rfl⟩
  by_cases h3 : op = 3
  · subst h3
    rw [show recF 3 = .func (.func 15) #[] #[] from rfl] at hl
    have hf := field_r (.func (.func 15) #[] #[]) (goF 3) (mapW w 10)
    have hn := some_r 15 (mapW w 10)
    go_enter Try.func7, Try.ntmps7
    go_wp2_with (first | (go_at_call 13; refine (ops_any _).mono ?_; rintro e w' ⟨rfl, rfl⟩) | (go_at_call 15; refine (fsub _ _  _).mono ?_; rintro e w' ⟨rfl, rfl⟩))
    go_ret2
    exact ⟨rfl, rfl⟩
  by_cases h4 : op = 4
  · subst h4
    rw [show recF 4 = .func (.func 16) #[] #[] from rfl] at hl
    have hf := field_r (.func (.func 16) #[] #[]) (goF 4) (mapW w 10)
    have hn := some_r 16 (mapW w 10)
    go_enter Try.func7, Try.ntmps7
    go_wp2_with (first | (go_at_call 13; refine (ops_any _).mono ?_; rintro e w' ⟨rfl, rfl⟩) | (go_at_call 16; refine (fand _ _  _).mono ?_; rintro e w' ⟨rfl, rfl⟩))
    go_ret2
    exact ⟨rfl, rfl⟩
  by_cases h5 : op = 5
  · subst h5
    rw [show recF 5 = .func (.func 17) #[] #[] from rfl] at hl
    have hf := field_r (.func (.func 17) #[] #[]) (goF 5) (mapW w 10)
    have hn := some_r 17 (mapW w 10)
    go_enter Try.func7, Try.ntmps7
    go_wp2_with (first | (go_at_call 13; refine (ops_any _).mono ?_; rintro e w' ⟨rfl, rfl⟩) | (go_at_call 17; refine (fxor _ _  _).mono ?_; rintro e w' ⟨rfl, rfl⟩))
    go_ret2
    exact ⟨rfl, rfl⟩
  by_cases h6 : op = 6
  · subst h6
    rw [show recF 6 = .func (.func 18) #[] #[] from rfl] at hl
    have hf := field_r (.func (.func 18) #[] #[]) (goF 6) (mapW w 10)
    have hn := some_r 18 (mapW w 10)
    go_enter Try.func7, Try.ntmps7
    go_wp2_with (first | (go_at_call 13; refine (ops_any _).mono ?_; rintro e w' ⟨rfl, rfl⟩) | (go_at_call 18; refine (fshl _ _ hc _).mono ?_; rintro e w' ⟨rfl, rfl⟩))
    go_ret2
    exact ⟨rfl, rfl⟩
  by_cases h7 : op = 7
  · subst h7
    rw [show recF 7 = .func (.func 19) #[] #[] from rfl] at hl
    have hf := field_r (.func (.func 19) #[] #[]) (goF 7) (mapW w 10)
    have hn := some_r 19 (mapW w 10)
    go_enter Try.func7, Try.ntmps7
    go_wp2_with (first | (go_at_call 13; refine (ops_any _).mono ?_; rintro e w' ⟨rfl, rfl⟩) | (go_at_call 19; refine (fshr _ _ hc _).mono ?_; rintro e w' ⟨rfl, rfl⟩))
    go_ret2
    exact ⟨rfl, rfl⟩
  rw [show recF op = .nilFunc by simp [recF, h2, h3, h4, h5, h6, h7]] at hl
  rw [show doV op b c = 0 by simp [doV, h2, h3, h4, h5, h6, h7], show doK op = false by simp [doK, h2, h3, h4, h5, h6, h7]]
  have hf := field_r .nilFunc (goF op) (mapW w 10)
  have hn := nil_r (mapW w 10)
  clear h2 h3 h4 h5 h6 h7
  go_enter Try.func7, Try.ntmps7
  go_wp2_with (go_at_call 13; refine (ops_any _).mono ?_; rintro e w' ⟨rfl, rfl⟩)
  go_ret2
  exact ⟨rfl, rfl⟩
theorem ggo_any (op a b : Int) (w : World) : Calls Try.prog 11 #[.int .i64 op, .int .u64 a, .int .u64 b] w fun e w' => e = .returned (.tuple #[.bool (goV op a b), .bool (goK op)]) ∧ w' = mapW w 10 := by
  have hl := look_map op w
  by_cases h17 : op = 17
  · subst h17
    rw [show goF 17 = .func (.func 20) #[] #[] from rfl] at hl
    have hf := field_g (recF 17) (.func (.func 20) #[] #[]) (mapW w 10)
    have hn := some_g 20 (mapW w 10)
    go_enter Try.func11, Try.ntmps11
    go_wp2_with (first | (go_at_call 13; refine (ops_any _).mono ?_; rintro e w' ⟨rfl, rfl⟩) | (go_at_call 20; refine (fjmp _ _ _).mono ?_; rintro e w' ⟨rfl, rfl⟩))
    go_ret2
    exact ⟨rfl, rfl⟩
  by_cases h18 : op = 18
  · subst h18
    rw [show goF 18 = .func (.func 21) #[] #[] from rfl] at hl
    have hf := field_g (recF 18) (.func (.func 21) #[] #[]) (mapW w 10)
    have hn := some_g 21 (mapW w 10)
    go_enter Try.func11, Try.ntmps11
    go_wp2_with (first | (go_at_call 13; refine (ops_any _).mono ?_; rintro e w' ⟨rfl, rfl⟩) | (go_at_call 21; refine (feq _ _ _).mono ?_; rintro e w' ⟨rfl, rfl⟩))
    go_ret2
    exact ⟨rfl, rfl⟩
  by_cases h19 : op = 19
  · subst h19
    rw [show goF 19 = .func (.func 22) #[] #[] from rfl] at hl
    have hf := field_g (recF 19) (.func (.func 22) #[] #[]) (mapW w 10)
    have hn := some_g 22 (mapW w 10)
    go_enter Try.func11, Try.ntmps11
    go_wp2_with (first | (go_at_call 13; refine (ops_any _).mono ?_; rintro e w' ⟨rfl, rfl⟩) | (go_at_call 22; refine (fne _ _ _).mono ?_; rintro e w' ⟨rfl, rfl⟩))
    go_ret2
    exact ⟨rfl, rfl⟩
  by_cases h20 : op = 20
  · subst h20
    rw [show goF 20 = .func (.func 23) #[] #[] from rfl] at hl
    have hf := field_g (recF 20) (.func (.func 23) #[] #[]) (mapW w 10)
    have hn := some_g 23 (mapW w 10)
    go_enter Try.func11, Try.ntmps11
    go_wp2_with (first | (go_at_call 13; refine (ops_any _).mono ?_; rintro e w' ⟨rfl, rfl⟩) | (go_at_call 23; refine (flt _ _ _).mono ?_; rintro e w' ⟨rfl, rfl⟩))
    go_ret2
    exact ⟨rfl, rfl⟩
  rw [show goF op = .nilFunc by simp [goF, h17, h18, h19, h20]] at hl
  rw [show goV op a b = false by simp [goV, h17, h18, h19, h20], show goK op = false by simp [goK, h17, h18, h19, h20]]
  have hf := field_g (recF op) .nilFunc (mapW w 10)
  have hn := nil_g (mapW w 10)
  clear h17 h18 h19 h20
  go_enter Try.func11, Try.ntmps11
  go_wp2_with (go_at_call 13; refine (ops_any _).mono ?_; rintro e w' ⟨rfl, rfl⟩)
  go_ret2
  exact ⟨rfl, rfl⟩
theorem gsum_any (b k : Int) (w : World) : Calls Try.prog 9 #[.int .u64 b, .int .i64 k] w fun e w' => e = .returned (.int .u64 (IntKind.u64.wrap (b + IntKind.u64.wrap k))) ∧ w = w' := by
  go_enter Try.func9, Try.ntmps9
  go_wp2
  go_ret
  exact ⟨rfl, rfl⟩
theorem wakes_any (w : World) : Calls Try.prog 10 #[] w fun e w' => e = .returned (.bool true) ∧ Chg [] w w' := by
  have k1 : doK 6 = true := rfl
  have k2 : goK 20 = true := rfl
  have k3 : doK 8 = false := rfl
  have k4 : doV 6 1 65 = 2 := rfl
  have k5 : goV 20 3 5 = true := rfl
  go_enter Try.func10, Try.ntmps10
  go_wp2_with (first | (go_at_call 7; refine (gdo_any _ _ _ (by decide) _).mono ?_; rintro e w' ⟨rfl, rfl⟩) | (go_at_call 11; refine (ggo_any _ _ _ _).mono ?_; rintro e w' ⟨rfl, rfl⟩) | (go_at_call 9; refine (gsum_any _ _ _).mono ?_; rintro e w' ⟨rfl, rfl⟩))
  go_ret
  exact ⟨rfl, ((Chg.mapW _ _).trans (Chg.mapW _ _)).trans (Chg.mapW _ _)⟩
end Go.Proofs.Ytidapabnliaecaa
