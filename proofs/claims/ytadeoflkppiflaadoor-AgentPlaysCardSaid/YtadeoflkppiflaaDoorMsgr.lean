/- Which messages have a form, by the document's words: walked. No condition. -/
import Derived.Test.YtadeoflkppiflaaDoorMsga
namespace Go.Proofs.YtadeoflkppiflaaDoor
open Go.RowKit
set_option linter.unusedVariables false
set_option maxHeartbeats 1000000
attribute [local go_sem ↓] append_appS copy_copS clear_clrS make_mkS slice_slS cell_row frozen_row loadLine storeLine loadMsg storeMsg loadHas storeHas heap_drew heap_drewN heap_alloc heap_past heap_setCell heap_putRow vs_get msc_kd msc_li msc_di msc_ke
attribute [local go_sem] rowCell_some rowFrozen_some rowHas_some rowIn_some rowPart_full rowPart_lit rowPut_full rowPut_lit rowSet_some size_putRow vs_size vs_one wideLine wideMsg wideHas run_loadS run_storeS run_appS run_copS run_clrS run_mkS run_slS loadW_at storeW_at fit_all fit_le one_int one_bool one_pointer one_slice allOne_list putRow_new ne_size1 ne_size2 ne_size3 ne_size4 zero8_length line_eq lit8 msc_size msc_one msc_part msc_in fold_msc
attribute [local simp ↓] heap_drew heap_drewN heap_alloc heap_past heap_setCell heap_putRow
attribute [local simp] rowCell_some rowFrozen_some rowHas_some rowIn_some rowPart_full rowPart_lit rowPut_full rowPut_lit rowSet_some size_putRow vs_size fit_all putRow_new ne_size1 ne_size2 ne_size3 ne_size4 zero8_length msc_size

theorem rgood_kind (kd li : Int) (di ke : Bool) (l : List Int) (h8 : l.length = 8) (a1 : asksB kd = false) (a2 : answersB kd = false) (a3 : tellsB kd = false) (w : World) : Calls Tryd.prog 45 #[.agg (msc ⟨kd, li, di, ke, l, h8⟩)] w fun e w' => e = .returned (.bool false) ∧ Chg [] w w' := by
  skip
  all_goals
    go_enter Tryd.func45, Tryd.ntmps45
    try dsimp only [List.append]
    go_wp2_with (first
      | (go_at_call 66; refine (rasks_any _ _).mono ?_; rintro e w' ⟨rfl, rfl⟩; rw [a1])
      | (go_at_call 67; refine (ranswers_any _ _).mono ?_; rintro e w' ⟨rfl, rfl⟩; rw [a2])
      | (go_at_call 46; refine (rtells_any _ _).mono ?_; rintro e w' ⟨rfl, rfl⟩; rw [a3]))
    go_ret
    exact ⟨rfl, (Chg.refl _ _).alloc _⟩
theorem rgood_line (kd li : Int) (di ke : Bool) (l : List Int) (h8 : l.length = 8) (hw : asksB kd = true ∨ (asksB kd = false ∧ answersB kd = true) ∨ (asksB kd = false ∧ answersB kd = false ∧ tellsB kd = true)) (h : lineB li = false) (w : World) : Calls Tryd.prog 45 #[.agg (msc ⟨kd, li, di, ke, l, h8⟩)] w fun e w' => e = .returned (.bool false) ∧ Chg [] w w' := by
  have hl2 : (decide (li < 0) = true) ∨ (decide (li < 0) = false ∧ decide (63 < li) = true) := by
    simp [lineB] at h ⊢; omega
  clear h
  rcases hw with a1 | ⟨a1, a2⟩ | ⟨a1, a2, a3⟩ <;> rcases hl2 with h | ⟨h, h'⟩
  all_goals
    go_enter Tryd.func45, Tryd.ntmps45
    try dsimp only [List.append]
    go_wp2_with (first
      | (go_at_call 66; refine (rasks_any _ _).mono ?_; rintro e w' ⟨rfl, rfl⟩; rw [a1])
      | (go_at_call 67; refine (ranswers_any _ _).mono ?_; rintro e w' ⟨rfl, rfl⟩; rw [a2])
      | (go_at_call 46; refine (rtells_any _ _).mono ?_; rintro e w' ⟨rfl, rfl⟩; rw [a3]))
    go_ret
    exact ⟨rfl, (Chg.refl _ _).alloc _⟩
theorem rgood_3 (kd li : Int) (di ke : Bool) (l : List Int) (h8 : l.length = 8) (a1 : asksB kd = true) (t3 : (kd == 3) = true) (t6 : (kd == 6) = false) (t7 : (kd == 7) = false) (t8 : (kd == 8) = false) (t9 : (kd == 9) = false) (t10 : (kd == 10) = false) (t7' : (kd != 7) = true) (l0 : decide (li < 0) = false) (l1 : decide (63 < li) = false) (w : World) : Calls Tryd.prog 45 #[.agg (msc ⟨kd, li, di, ke, l, h8⟩)] w fun e w' => e = .returned (.bool ((!di || true) && (!ke || false) && (false || di || l == [0, 0, 0, 0, 0, 0, 0, 0]))) ∧ Chg [] w w' := by
  have he := fun W => line_eq l [0, 0, 0, 0, 0, 0, 0, 0] h8 rfl W
  all_goals cases di <;> cases ke
  all_goals
    go_enter Tryd.func45, Tryd.ntmps45
    try dsimp only [List.append]
    go_wp2_with (first
      | (go_at_call 66; refine (rasks_any _ _).mono ?_; rintro e w' ⟨rfl, rfl⟩; rw [a1])
      | (go_at_call 67; refine (ranswers_any _ _).mono ?_; rintro e w' ⟨rfl, rfl⟩; rw [a2])
      | (go_at_call 46; refine (rtells_any _ _).mono ?_; rintro e w' ⟨rfl, rfl⟩; rw [a3]))
    go_ret
    exact ⟨by simp, (Chg.refl _ _).alloc _⟩
theorem rgood_6 (kd li : Int) (di ke : Bool) (l : List Int) (h8 : l.length = 8) (a1 : asksB kd = false) (a2 : answersB kd = true) (t3 : (kd == 3) = false) (t6 : (kd == 6) = true) (t7 : (kd == 7) = false) (t8 : (kd == 8) = false) (t9 : (kd == 9) = false) (t10 : (kd == 10) = false) (t7' : (kd != 7) = true) (l0 : decide (li < 0) = false) (l1 : decide (63 < li) = false) (w : World) : Calls Tryd.prog 45 #[.agg (msc ⟨kd, li, di, ke, l, h8⟩)] w fun e w' => e = .returned (.bool ((!di || true) && (!ke || false) && (false || di || l == [0, 0, 0, 0, 0, 0, 0, 0]))) ∧ Chg [] w w' := by
  have he := fun W => line_eq l [0, 0, 0, 0, 0, 0, 0, 0] h8 rfl W
  all_goals cases di <;> cases ke
  all_goals
    go_enter Tryd.func45, Tryd.ntmps45
    try dsimp only [List.append]
    go_wp2_with (first
      | (go_at_call 66; refine (rasks_any _ _).mono ?_; rintro e w' ⟨rfl, rfl⟩; rw [a1])
      | (go_at_call 67; refine (ranswers_any _ _).mono ?_; rintro e w' ⟨rfl, rfl⟩; rw [a2])
      | (go_at_call 46; refine (rtells_any _ _).mono ?_; rintro e w' ⟨rfl, rfl⟩; rw [a3]))
    go_ret
    exact ⟨by simp, (Chg.refl _ _).alloc _⟩
theorem rgood_7 (kd li : Int) (di ke : Bool) (l : List Int) (h8 : l.length = 8) (a1 : asksB kd = false) (a2 : answersB kd = true) (t3 : (kd == 3) = false) (t6 : (kd == 6) = false) (t7 : (kd == 7) = true) (t8 : (kd == 8) = false) (t9 : (kd == 9) = false) (t10 : (kd == 10) = false) (t7' : (kd != 7) = false) (l0 : decide (li < 0) = false) (l1 : decide (63 < li) = false) (w : World) : Calls Tryd.prog 45 #[.agg (msc ⟨kd, li, di, ke, l, h8⟩)] w fun e w' => e = .returned (.bool ((!di || true) && (!ke || true) && (false || di || l == [0, 0, 0, 0, 0, 0, 0, 0]))) ∧ Chg [] w w' := by
  have he := fun W => line_eq l [0, 0, 0, 0, 0, 0, 0, 0] h8 rfl W
  all_goals cases di <;> cases ke
  all_goals
    go_enter Tryd.func45, Tryd.ntmps45
    try dsimp only [List.append]
    go_wp2_with (first
      | (go_at_call 66; refine (rasks_any _ _).mono ?_; rintro e w' ⟨rfl, rfl⟩; rw [a1])
      | (go_at_call 67; refine (ranswers_any _ _).mono ?_; rintro e w' ⟨rfl, rfl⟩; rw [a2])
      | (go_at_call 46; refine (rtells_any _ _).mono ?_; rintro e w' ⟨rfl, rfl⟩; rw [a3]))
    go_ret
    exact ⟨by simp, (Chg.refl _ _).alloc _⟩
theorem rgood_8 (kd li : Int) (di ke : Bool) (l : List Int) (h8 : l.length = 8) (a1 : asksB kd = false) (a2 : answersB kd = false) (a3 : tellsB kd = true) (t3 : (kd == 3) = false) (t6 : (kd == 6) = false) (t7 : (kd == 7) = false) (t8 : (kd == 8) = true) (t9 : (kd == 9) = false) (t10 : (kd == 10) = false) (t7' : (kd != 7) = true) (l0 : decide (li < 0) = false) (l1 : decide (63 < li) = false) (w : World) : Calls Tryd.prog 45 #[.agg (msc ⟨kd, li, di, ke, l, h8⟩)] w fun e w' => e = .returned (.bool ((!di || false) && (!ke || false) && (true || di || l == [0, 0, 0, 0, 0, 0, 0, 0]))) ∧ Chg [] w w' := by
  have he := fun W => line_eq l [0, 0, 0, 0, 0, 0, 0, 0] h8 rfl W
  all_goals cases di <;> cases ke
  all_goals
    go_enter Tryd.func45, Tryd.ntmps45
    try dsimp only [List.append]
    go_wp2_with (first
      | (go_at_call 66; refine (rasks_any _ _).mono ?_; rintro e w' ⟨rfl, rfl⟩; rw [a1])
      | (go_at_call 67; refine (ranswers_any _ _).mono ?_; rintro e w' ⟨rfl, rfl⟩; rw [a2])
      | (go_at_call 46; refine (rtells_any _ _).mono ?_; rintro e w' ⟨rfl, rfl⟩; rw [a3]))
    go_ret
    exact ⟨by simp, (Chg.refl _ _).alloc _⟩
theorem rgood_9 (kd li : Int) (di ke : Bool) (l : List Int) (h8 : l.length = 8) (a1 : asksB kd = false) (a2 : answersB kd = false) (a3 : tellsB kd = true) (t3 : (kd == 3) = false) (t6 : (kd == 6) = false) (t7 : (kd == 7) = false) (t8 : (kd == 8) = false) (t9 : (kd == 9) = true) (t10 : (kd == 10) = false) (t7' : (kd != 7) = true) (l0 : decide (li < 0) = false) (l1 : decide (63 < li) = false) (w : World) : Calls Tryd.prog 45 #[.agg (msc ⟨kd, li, di, ke, l, h8⟩)] w fun e w' => e = .returned (.bool ((!di || false) && (!ke || false) && (true || di || l == [0, 0, 0, 0, 0, 0, 0, 0]))) ∧ Chg [] w w' := by
  have he := fun W => line_eq l [0, 0, 0, 0, 0, 0, 0, 0] h8 rfl W
  all_goals cases di <;> cases ke
  all_goals
    go_enter Tryd.func45, Tryd.ntmps45
    try dsimp only [List.append]
    go_wp2_with (first
      | (go_at_call 66; refine (rasks_any _ _).mono ?_; rintro e w' ⟨rfl, rfl⟩; rw [a1])
      | (go_at_call 67; refine (ranswers_any _ _).mono ?_; rintro e w' ⟨rfl, rfl⟩; rw [a2])
      | (go_at_call 46; refine (rtells_any _ _).mono ?_; rintro e w' ⟨rfl, rfl⟩; rw [a3]))
    go_ret
    exact ⟨by simp, (Chg.refl _ _).alloc _⟩
theorem rgood_10 (kd li : Int) (di ke : Bool) (l : List Int) (h8 : l.length = 8) (a1 : asksB kd = false) (a2 : answersB kd = false) (a3 : tellsB kd = true) (t3 : (kd == 3) = false) (t6 : (kd == 6) = false) (t7 : (kd == 7) = false) (t8 : (kd == 8) = false) (t9 : (kd == 9) = false) (t10 : (kd == 10) = true) (t7' : (kd != 7) = true) (l0 : decide (li < 0) = false) (l1 : decide (63 < li) = false) (w : World) : Calls Tryd.prog 45 #[.agg (msc ⟨kd, li, di, ke, l, h8⟩)] w fun e w' => e = .returned (.bool ((!di || false) && (!ke || false) && (true || di || l == [0, 0, 0, 0, 0, 0, 0, 0]))) ∧ Chg [] w w' := by
  have he := fun W => line_eq l [0, 0, 0, 0, 0, 0, 0, 0] h8 rfl W
  all_goals cases di <;> cases ke
  all_goals
    go_enter Tryd.func45, Tryd.ntmps45
    try dsimp only [List.append]
    go_wp2_with (first
      | (go_at_call 66; refine (rasks_any _ _).mono ?_; rintro e w' ⟨rfl, rfl⟩; rw [a1])
      | (go_at_call 67; refine (ranswers_any _ _).mono ?_; rintro e w' ⟨rfl, rfl⟩; rw [a2])
      | (go_at_call 46; refine (rtells_any _ _).mono ?_; rintro e w' ⟨rfl, rfl⟩; rw [a3]))
    go_ret
    exact ⟨by simp, (Chg.refl _ _).alloc _⟩
theorem rgood_n (kd li : Int) (di ke : Bool) (l : List Int) (h8 : l.length = 8) (hw : asksB kd = true ∨ (asksB kd = false ∧ answersB kd = true) ∨ (asksB kd = false ∧ answersB kd = false ∧ tellsB kd = true)) (t3 : (kd == 3) = false) (t6 : (kd == 6) = false) (t7 : (kd == 7) = false) (t8 : (kd == 8) = false) (t9 : (kd == 9) = false) (t10 : (kd == 10) = false) (t7' : (kd != 7) = true) (l0 : decide (li < 0) = false) (l1 : decide (63 < li) = false) (w : World) : Calls Tryd.prog 45 #[.agg (msc ⟨kd, li, di, ke, l, h8⟩)] w fun e w' => e = .returned (.bool ((!di || false) && (!ke || false) && (false || di || l == [0, 0, 0, 0, 0, 0, 0, 0]))) ∧ Chg [] w w' := by
  have he := fun W => line_eq l [0, 0, 0, 0, 0, 0, 0, 0] h8 rfl W
  rcases hw with a1 | ⟨a1, a2⟩ | ⟨a1, a2, a3⟩
  rotate_left
  · exact absurd (show answersB kd = false by revert t6 t7; simp [answersB]; omega) (by simp [a2])
  all_goals cases di <;> cases ke
  all_goals
    go_enter Tryd.func45, Tryd.ntmps45
    try dsimp only [List.append]
    go_wp2_with (first
      | (go_at_call 66; refine (rasks_any _ _).mono ?_; rintro e w' ⟨rfl, rfl⟩; rw [a1])
      | (go_at_call 67; refine (ranswers_any _ _).mono ?_; rintro e w' ⟨rfl, rfl⟩; rw [a2])
      | (go_at_call 46; refine (rtells_any _ _).mono ?_; rintro e w' ⟨rfl, rfl⟩; rw [a3]))
    go_ret
    exact ⟨by simp, (Chg.refl _ _).alloc _⟩
theorem rgood_any (m : Ms) (w : World) : Calls Tryd.prog 45 #[.agg (msc m)] w fun e w' => e = .returned (.bool (mg m)) ∧ Chg [] w w' := by
  obtain ⟨kd, li, di, ke, l, h8⟩ := m
  have hw := ways_kind kd
  rw [show mg ⟨kd, li, di, ke, l, h8⟩ = (kindB kd && lineB li && (!di || mayD kd) && (!ke || mayK kd) && (mayW kd || di || l == [0, 0, 0, 0, 0, 0, 0, 0])) from rfl]
  cases hk : kindB kd
  · rw [hk] at hw
    simp only [Bool.or_eq_false_iff] at hw
    exact (rgood_kind kd li di ke l h8 hw.1.1 hw.1.2 hw.2 w).mono (by simp)
  rw [hk] at hw
  have h3 : asksB kd = true ∨ (asksB kd = false ∧ answersB kd = true) ∨ (asksB kd = false ∧ answersB kd = false ∧ tellsB kd = true) := by
    cases ha : asksB kd <;> cases hb : answersB kd <;> cases hc : tellsB kd <;> simp_all
  cases hl : lineB li
  · exact (rgood_line kd li di ke l h8 h3 hl w).mono (by simp)
  have l0 : decide (li < 0) = false := by simp [lineB] at hl ⊢; omega
  have l1 : decide (63 < li) = false := by simp [lineB] at hl ⊢; omega
  by_cases k3 : kd = 3
  · subst k3; exact rgood_3 3 li di ke l h8 rfl rfl rfl rfl rfl rfl rfl rfl l0 l1 w
  by_cases k6 : kd = 6
  · subst k6; exact rgood_6 6 li di ke l h8 rfl rfl rfl rfl rfl rfl rfl rfl rfl l0 l1 w
  by_cases k7 : kd = 7
  · subst k7; exact rgood_7 7 li di ke l h8 rfl rfl rfl rfl rfl rfl rfl rfl rfl l0 l1 w
  by_cases k8 : kd = 8
  · subst k8; exact rgood_8 8 li di ke l h8 rfl rfl rfl rfl rfl rfl rfl rfl rfl rfl l0 l1 w
  by_cases k9 : kd = 9
  · subst k9; exact rgood_9 9 li di ke l h8 rfl rfl rfl rfl rfl rfl rfl rfl rfl rfl l0 l1 w
  by_cases k10 : kd = 10
  · subst k10; exact rgood_10 10 li di ke l h8 rfl rfl rfl rfl rfl rfl rfl rfl rfl rfl l0 l1 w
  have e1 : mayD kd = false := by simp [mayD, k3, k6, k7]
  have e2 : mayK kd = false := by simp [mayK, k7]
  have e3 : mayW kd = false := by simp [mayW, k8, k9, k10]
  rw [e1, e2, e3]
  exact rgood_n kd li di ke l h8 h3 (by simp [k3]) (by simp [k6]) (by simp [k7]) (by simp [k8]) (by simp [k9]) (by simp [k10]) (by simp [k7]) l0 l1 w
end Go.Proofs.YtadeoflkppiflaaDoor
