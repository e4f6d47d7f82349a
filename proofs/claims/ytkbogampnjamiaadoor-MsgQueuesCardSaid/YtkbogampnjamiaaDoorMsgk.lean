/- MsgKinds, walked. No condition. -/
import Derived.Test.YtkbogampnjamiaaDoorMsgx
namespace Go.Proofs.YtkbogampnjamiaaDoor
open Go.RowKit
set_option linter.unusedVariables false
set_option maxHeartbeats 1000000
attribute [local go_sem ↓] append_appS copy_copS clear_clrS make_mkS slice_slS cell_row frozen_row loadLine storeLine loadMsg storeMsg loadHas storeHas heap_drew heap_drewN heap_alloc heap_past heap_setCell heap_putRow vs_get msc_kd msc_li msc_di msc_ke
attribute [local go_sem] rowCell_some rowFrozen_some rowHas_some rowIn_some rowPart_full rowPart_lit rowPut_full rowPut_lit rowSet_some size_putRow vs_size vs_one wideLine wideMsg wideHas run_loadS run_storeS run_appS run_copS run_clrS run_mkS run_slS loadW_at storeW_at fit_all fit_le one_int one_bool one_pointer one_slice allOne_list putRow_new ne_size1 ne_size2 ne_size3 ne_size4 zero8_length line_eq lit8 msc_size msc_one msc_part msc_in fold_msc
attribute [local simp ↓] heap_drew heap_drewN heap_alloc heap_past heap_setCell heap_putRow
attribute [local simp] rowCell_some rowFrozen_some rowHas_some rowIn_some rowPart_full rowPart_lit rowPut_full rowPut_lit rowSet_some size_putRow vs_size fit_all putRow_new ne_size1 ne_size2 ne_size3 ne_size4 zero8_length msc_size

attribute [local go_sem ↓] msg_same
attribute [local go_sem] putRow_new2
theorem mg_bare (kd li : Int) : mg (ms4 kd li false false) = (kindB kd && lineB li) := by simp [mg, ms4]
theorem mg_kept (kd li : Int) : mg (ms4 kd li false true) = ((kd == 7) && lineB li) := by
  by_cases h : kd = 7
  · subst h; simp [mg, ms4, mayK, kindB]
  · have h7 : (kd == 7) = false := by simp [h]
    simp [mg, ms4, mayK, h7]
set_option maxRecDepth 100000 in
set_option maxHeartbeats 40000000 in
theorem mkinds_any (kd li : Int) (W : World) (ht : Tab W) : Calls Tryd.prog 7 #[.int .i64 kd, .int .i64 li] W fun e w' => e = .returned (.bool true) ∧ Chg [] W w' := by
  have HT := Lib.hid ht
  clear ht
  have hm1 := mg_bare kd li
  have hm2 := mg_kept kd li
  have cls : (asksB kd = true ∧ answersB kd = false ∧ tellsB kd = false ∧ kindB kd = true ∧ decide (1 ≤ kd) = true ∧ decide (kd ≤ 14) = true ∧ (kd == 7) = false) ∨
      (asksB kd = false ∧ answersB kd = true ∧ tellsB kd = false ∧ kindB kd = true ∧ decide (1 ≤ kd) = true ∧ decide (kd ≤ 14) = true ∧ (kd == 7) = false) ∨
      (asksB kd = false ∧ answersB kd = true ∧ tellsB kd = false ∧ kindB kd = true ∧ decide (1 ≤ kd) = true ∧ decide (kd ≤ 14) = true ∧ (kd == 7) = true) ∨
      (asksB kd = false ∧ answersB kd = false ∧ tellsB kd = true ∧ kindB kd = true ∧ decide (1 ≤ kd) = true ∧ decide (kd ≤ 14) = true ∧ (kd == 7) = false) ∨
      (asksB kd = false ∧ answersB kd = false ∧ tellsB kd = false ∧ kindB kd = false ∧ decide (1 ≤ kd) = false ∧ True ∧ (kd == 7) = false) ∨
      (asksB kd = false ∧ answersB kd = false ∧ tellsB kd = false ∧ kindB kd = false ∧ decide (1 ≤ kd) = true ∧ decide (kd ≤ 14) = false ∧ (kd == 7) = false) := by
    simp [asksB, answersB, tellsB, kindB]; omega
  have lns : (lineB li = true ∧ decide (0 ≤ li) = true ∧ decide (li < 64) = true) ∨ (lineB li = false ∧ decide (0 ≤ li) = false ∧ True) ∨ (lineB li = false ∧ decide (0 ≤ li) = true ∧ decide (li < 64) = false) := by
    simp [lineB]; omega
  rcases cls with ⟨a1, a2, a3, b1, g1, g2, t7⟩ | ⟨a1, a2, a3, b1, g1, g2, t7⟩ | ⟨a1, a2, a3, b1, g1, g2, t7⟩ | ⟨a1, a2, a3, b1, g1, g2, t7⟩ | ⟨a1, a2, a3, b1, g1, g2, t7⟩ | ⟨a1, a2, a3, b1, g1, g2, t7⟩ <;> rcases lns with ⟨b2, l0, l1⟩ | ⟨b2, l0, l1⟩ | ⟨b2, l0, l1⟩
  all_goals
    rw [b1, b2] at hm1
    rw [t7, b2] at hm2
    simp only [Bool.and_true, Bool.and_false, Bool.false_and] at hm1 hm2
    have HM1 := Lib.hid hm1
    have HM2 := Lib.hid hm2
    clear hm1 hm2 b1 b2
    go_enter Tryd.func7, Tryd.ntmps7
    try dsimp only [List.append]
    go_wp2_with (first
      | (go_at_call 10; refine (asks_any _ _).mono ?_; rintro e w' ⟨rfl, rfl⟩; rw [a1])
      | (go_at_call 12; refine (answers_any _ _).mono ?_; rintro e w' ⟨rfl, rfl⟩; rw [a2])
      | (go_at_call 14; refine (tells_any _ _).mono ?_; rintro e w' ⟨rfl, rfl⟩; rw [a3]))
    rw [ms4_lit kd li false false, ms4_lit kd li false true]
    have r0 : ((W.alloc (.cells (msc (ms4 kd li false false)) 26)).alloc (.cells (msc (ms4 kd li false true)) 26)).heap[W.heap.size + 1]? = some (.cells (msc (ms4 kd li false true)) 26 (0, 0)) := by simp
    have C0 := Lib.hid (((Chg.refl [] W).alloc (.cells (msc (ms4 kd li false false)) 26)).alloc (.cells (msc (ms4 kd li false true)) 26))
    generalize (W.alloc (.cells (msc (ms4 kd li false false)) 26)).alloc (.cells (msc (ms4 kd li false true)) 26) = w1 at r0 C0 ⊢
    refine (mgood_any (ms4 kd li false false) w1 (HT.out.keep C0.out (by simp))).mono ?_
    rintro e w2 ⟨rfl, c2⟩
    rw [HM1.out]
    have r2 := c2.keep r0 (by simp)
    have C2 := Lib.hid (C0.out.trans c2)
    clear r0 C0 c2
    have o2 := old r2
    go_wp2_with fail
    refine (mgood_any (ms4 kd li false true) w2 (HT.out.keep C2.out (by simp))).mono ?_
    rintro e w3 ⟨rfl, c3⟩
    rw [HM2.out]
    have C3 := Lib.hid (C2.out.trans c3)
    clear r2 C2 c3 o2
    go_wp2_with (go_at_call 16; refine (mwakes _ (HT.out.keep C3.out (by simp))).mono ?_; rintro e w7 ⟨rfl, c7⟩)
    go_ret
    exact ⟨rfl, C3.out.trans c7⟩
end Go.Proofs.YtkbogampnjamiaaDoor
