/- What the calls of package msg that ask of one message answer: walked. No condition. -/
import Derived.Test.YtadeoflkppiflaaDoorMsgm
import Derived.Test.YtadeoflkppiflaaDoorLines
namespace Go.Proofs.YtadeoflkppiflaaDoor
open Go.RowKit
set_option linter.unusedVariables false
set_option maxHeartbeats 1000000
theorem wideMsg : Wide Tryd.prog 35 12 := ⟨⟨_, Tryd.underlying35, by rfl⟩, by kernel_rfl⟩
theorem loadMsg (x : Value) : Instr.loadAt 35 x = loadS 35 12 x := rfl
theorem storeMsg (x y : Value) : Instr.storeAt 35 x y = storeS 35 12 x y := rfl
theorem wideHas : Wide Tryd.prog 102 3 := ⟨⟨_, Tryd.underlying102, by rfl⟩, by kernel_rfl⟩
theorem loadHas (x : Value) : Instr.loadAt 102 x = loadS 102 3 x := rfl
theorem storeHas (x y : Value) : Instr.storeAt 102 x y = storeS 102 3 x y := rfl
attribute [local go_sem ↓] append_appS copy_copS clear_clrS make_mkS slice_slS cell_row frozen_row loadLine storeLine loadMsg storeMsg loadHas storeHas heap_drew heap_drewN heap_alloc heap_past heap_setCell heap_putRow vs_get msc_kd msc_li msc_di msc_ke
attribute [local go_sem] rowCell_some rowFrozen_some rowHas_some rowIn_some rowPart_full rowPart_lit rowPut_full rowPut_lit rowSet_some size_putRow vs_size vs_one wideLine wideMsg wideHas run_loadS run_storeS run_appS run_copS run_clrS run_mkS run_slS loadW_at storeW_at fit_all fit_le one_int one_bool one_pointer one_slice allOne_list putRow_new ne_size1 ne_size2 ne_size3 ne_size4 zero8_length line_eq lit8 msc_size msc_one msc_part msc_in fold_msc
attribute [local simp ↓] heap_drew heap_drewN heap_alloc heap_past heap_setCell heap_putRow
attribute [local simp] rowCell_some rowFrozen_some rowHas_some rowIn_some rowPart_full rowPart_lit rowPut_full rowPut_lit rowSet_some size_putRow vs_size fit_all putRow_new ne_size1 ne_size2 ne_size3 ne_size4 zero8_length msc_size

theorem mwithin_any (n a b : Int) (w : World) : Calls Tryd.prog 64 #[.int .i64 n, .int .i64 a, .int .i64 b] w fun e w' => e = .returned (.bool (decide (a ≤ n) && decide (n ≤ b))) ∧ w = w' := by
  by_cases h : a ≤ n
  · have t1 : decide (a ≤ n) = true := by simpa using h
    rw [t1]
    clear h
    go_enter Tryd.func64, Tryd.ntmps64
    go_wp2
    go_ret
    exact ⟨by simp, rfl⟩
  · have t1 : decide (a ≤ n) = false := by simpa using h
    rw [t1]
    clear h
    go_enter Tryd.func64, Tryd.ntmps64
    go_wp2
    go_ret
    exact ⟨by simp, rfl⟩
theorem tells_any (k : Int) (w : World) : Calls Tryd.prog 41 #[.int .i64 k] w fun e w' => e = .returned (.bool (tellsB k)) ∧ w = w' := by
  go_enter Tryd.func41, Tryd.ntmps41
  go_wp2_with (go_at_call 64; refine (mwithin_any _ _ _ _).mono ?_; rintro e w' ⟨rfl, rfl⟩)
  go_ret
  exact ⟨rfl, rfl⟩
theorem rasks_any (k : Int) (w : World) : Calls Tryd.prog 66 #[.int .i64 k] w fun e w' => e = .returned (.bool (asksB k)) ∧ w = w' := by
  unfold asksB
  by_cases h : 1 ≤ k
  · have t1 : decide (1 ≤ k) = true := by simpa using h
    rw [t1]
    clear h
    go_enter Tryd.func66, Tryd.ntmps66
    go_wp2
    go_ret
    exact ⟨by simp, rfl⟩
  · have t1 : decide (1 ≤ k) = false := by simpa using h
    rw [t1]
    clear h
    go_enter Tryd.func66, Tryd.ntmps66
    go_wp2
    go_ret
    exact ⟨by simp, rfl⟩
theorem ranswers_any (k : Int) (w : World) : Calls Tryd.prog 67 #[.int .i64 k] w fun e w' => e = .returned (.bool (answersB k)) ∧ w = w' := by
  by_cases h : k = 6
  · subst h
    go_enter Tryd.func67, Tryd.ntmps67
    go_wp2
    go_ret
    exact ⟨rfl, rfl⟩
  · have t1 : (k == 6) = false := by simpa using h
    have e1 : answersB k = (k == 7) := by
      rw [Bool.eq_iff_iff]; simp [answersB]; omega
    rw [e1]
    clear h e1
    go_enter Tryd.func67, Tryd.ntmps67
    go_wp2
    go_ret
    exact ⟨rfl, rfl⟩
theorem rtells_any (k : Int) (w : World) : Calls Tryd.prog 46 #[.int .i64 k] w fun e w' => e = .returned (.bool (tellsB k)) ∧ w = w' := by
  unfold tellsB
  by_cases h : 8 ≤ k
  · have t1 : decide (8 ≤ k) = true := by simpa using h
    rw [t1]
    clear h
    go_enter Tryd.func46, Tryd.ntmps46
    go_wp2
    go_ret
    exact ⟨by simp, rfl⟩
  · have t1 : decide (8 ≤ k) = false := by simpa using h
    rw [t1]
    clear h
    go_enter Tryd.func46, Tryd.ntmps46
    go_wp2
    go_ret
    exact ⟨by simp, rfl⟩
/-! ### Which messages have a form -/
theorem mgood_kind (m : Ms) (w : World) (h : kindB m.kd = false) : Calls Tryd.prog 40 #[.agg (msc m)] w fun e w' => e = .returned (.bool (mg m)) ∧ Chg [] w w' := by
  rw [show mg m = false by simp [mg, h]]
  go_enter Tryd.func40, Tryd.ntmps40
  try dsimp only [List.append]
  go_wp2_with (go_at_call 64; refine (mwithin_any _ _ _ _).mono ?_; rintro e w' ⟨rfl, rfl⟩; rw [show (decide (1 ≤ m.kd) && decide (m.kd ≤ 14)) = false from h])
  go_ret
  exact ⟨rfl, (Chg.refl _ _).alloc _⟩
theorem mgood_line (m : Ms) (w : World) (h1 : kindB m.kd = true) (h : lineB m.li = false) : Calls Tryd.prog 40 #[.agg (msc m)] w fun e w' => e = .returned (.bool (mg m)) ∧ Chg [] w w' := by
  rw [show mg m = false by simp [mg, h]]
  go_enter Tryd.func40, Tryd.ntmps40
  try dsimp only [List.append]
  go_wp2_with (go_at_call 64; refine (mwithin_any _ _ _ _).mono ?_; rintro e w' ⟨rfl, rfl⟩; (try rw [show (decide (1 ≤ m.kd) && decide (m.kd ≤ 14)) = true from h1]); (try rw [show (decide (0 ≤ m.li) && decide (m.li ≤ 63)) = false from h]))
  go_ret
  exact ⟨rfl, (Chg.refl _ _).alloc _⟩
end Go.Proofs.YtadeoflkppiflaaDoor
