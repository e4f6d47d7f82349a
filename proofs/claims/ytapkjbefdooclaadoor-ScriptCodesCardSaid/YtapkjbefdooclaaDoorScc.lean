/- Calls of package script on one act, and the document's: walked. No condition. -/
import Derived.Test.YtapkjbefdooclaaDoorScb
import Derived.Test.YtapkjbefdooclaaDoorOpen
import Derived.Test.YtapkjbefdooclaaDoorArgs
import Derived.Test.YtapkjbefdooclaaDoorChecked
import Derived.Laws.LoneSync
import Derived.Lib.SliceRun
import Derived.Deep.RegionHeld3
import Derived.Deep.RegionWith
import Derived.Laws.StructEq
import Derived.ChangeKeysEq
import Derived.BigQuiet
import Derived.BigRegion
import Derived.Deep.QuietTactic
namespace Go.Proofs.YtapkjbefdooclaaDoor
open Go.RowKit
set_option linter.unusedVariables false
set_option maxHeartbeats 1000000

set_option maxRecDepth 100000
attribute [local go_sem ↓] append_appS copy_copS clear_clrS make_mkS slice_slS index_ixS conv_cvS cell_row frozen_row loadAct storeAct heap_drew heap_drewN heap_alloc heap_past heap_setCell heap_putRow sac_kd sac_co sac_li act_eqIn
attribute [local go_sem] rowCell_some rowFrozen_some rowHas_some rowIn_some rowPart_full rowPart_lit rowPut_full rowPut_lit rowSet_some size_putRow wideAct run_loadS run_storeS run_appS run_copS run_clrS run_mkS run_slS run_ixS run_cvS loadW_at storeW_at fit_all fit_le one_int one_bool one_pointer one_slice allOne_list putRow_new ne_size1 ne_size2 ne_size3 ne_size4 sac_size sac_one fold_sac fold_sac2 str_size sac_lit sac_ne sac_set0 sac_set1 sac_set2
attribute [local simp ↓] heap_drew heap_drewN heap_alloc heap_past heap_setCell heap_putRow
attribute [local simp] rowCell_some rowFrozen_some rowHas_some rowIn_some rowPart_full rowPart_lit rowPut_full rowPut_lit rowSet_some size_putRow fit_all putRow_new ne_size1 ne_size2 ne_size3 ne_size4 sac_size
theorem gdA_doc (a : Sact) (h : kindK a.kd = true) : gdA a = ((if coreK a.kd = true then !decide (a.co < 0) && !decide (7 < a.co) else (a.co == 0)) && (if lineK a.kd = true then decide (0 ≤ a.li) && decide (a.li ≤ 63) else (a.li == 0))) := by
  unfold gdA nCo nLi
  rw [h, Bool.true_and]
  congr 1
  · cases hc : coreK a.kd
    · simp only [if_true, Bool.false_eq_true, if_false]
      rw [Bool.eq_iff_iff]; simp; omega
    · simp only [if_true]
      rw [Bool.eq_iff_iff]; simp; omega
  · cases hc : lineK a.kd
    · simp only [if_true, Bool.false_eq_true, if_false]
      rw [Bool.eq_iff_iff]; simp; omega
    · simp only [if_true]
      rw [Bool.eq_iff_iff]; simp; omega
theorem rgood_any16 (a : Sact) (W : World) : Calls Tryd.prog 11 #[.agg (sac a)] W fun e w' => e = .returned (.bool (gdA a)) ∧ Chg [] W w' := by
  by_cases h0 : a.kd < 1
  · have t1 : decide (a.kd < 1) = true := by simpa using h0
    rw [show gdA a = false by simp [gdA, kindK]; omega]
    clear h0
    go_enter Tryd.func11, Tryd.ntmps11
    try dsimp only [List.append]
    go_wp2
    go_ret
    exact ⟨rfl, (Chg.refl _ _).alloc _⟩
  by_cases h1 : 10 < a.kd
  · have t1 : decide (a.kd < 1) = false := by simpa using h0
    have t2 : decide (10 < a.kd) = true := by simpa using h1
    rw [show gdA a = false by simp [gdA, kindK]; omega]
    clear h0 h1
    go_enter Tryd.func11, Tryd.ntmps11
    try dsimp only [List.append]
    go_wp2
    go_ret
    exact ⟨rfl, (Chg.refl _ _).alloc _⟩
  have t1 : decide (a.kd < 1) = false := by simpa using h0
  have t2 : decide (10 < a.kd) = false := by simpa using h1
  have HG := Lib.hid (gdA_doc a (by simp [kindK]; omega))
  have hA : (coreK a.kd = true ∧ decide (a.co < 0) = true ∧ True) ∨ (coreK a.kd = true ∧ decide (a.co < 0) = false ∧ decide (7 < a.co) = true) ∨ (coreK a.kd = true ∧ decide (a.co < 0) = false ∧ decide (7 < a.co) = false) ∨ (coreK a.kd = false ∧ (a.co != 0) = true ∧ (a.co == 0) = false) ∨ (coreK a.kd = false ∧ (a.co != 0) = false ∧ (a.co == 0) = true) := by
    cases coreK a.kd <;> simp <;> omega
  have hB : (lineK a.kd = true ∧ decide (0 ≤ a.li) = false ∧ True) ∨ (lineK a.kd = true ∧ decide (0 ≤ a.li) = true ∧ decide (a.li ≤ 63) = false) ∨ (lineK a.kd = true ∧ decide (0 ≤ a.li) = true ∧ decide (a.li ≤ 63) = true) ∨ (lineK a.kd = false ∧ (a.li == 0) = false ∧ True) ∨ (lineK a.kd = false ∧ (a.li == 0) = true ∧ True) := by
    cases lineK a.kd <;> simp <;> omega
  clear h0 h1
  rcases hA with ⟨ck, x1, x2⟩ | ⟨ck, x1, x2⟩ | ⟨ck, x1, x2⟩ | ⟨ck, x1, x2⟩ | ⟨ck, x1, x2⟩ <;> rcases hB with ⟨lk, y1, y2⟩ | ⟨lk, y1, y2⟩ | ⟨lk, y1, y2⟩ | ⟨lk, y1, y2⟩ | ⟨lk, y1, y2⟩
  all_goals
    have HC := Lib.hid ck
    have HL := Lib.hid lk
    clear ck lk
    go_enter Tryd.func11, Tryd.ntmps11
    try dsimp only [List.append]
    go_wp2_with (first
      | (go_at_call 17; refine (rcore_any16 _ _).mono ?_; rintro e w' ⟨rfl, rfl⟩; rw [HC.out])
      | (go_at_call 18; refine (rline_any16 _ _).mono ?_; rintro e w' ⟨rfl, rfl⟩; rw [HL.out]))
    go_ret
    exact ⟨by rw [HG.out, HC.out, HL.out]; simp [*], (Chg.refl _ _).alloc _⟩
end Go.Proofs.YtapkjbefdooclaaDoor
