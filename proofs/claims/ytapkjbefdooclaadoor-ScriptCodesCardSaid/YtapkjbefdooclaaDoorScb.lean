/- Calls of package script on one act, and the document's: walked. No condition. -/
import Derived.Test.YtapkjbefdooclaaDoorSca
import Derived.Test.YtapkjbefdooclaaDoorOpen
import Derived.Test.YtapkjbefdooclaaDoorArgs
import Derived.Test.YtapkjbefdooclaaDoorChecked
import Derived.Laws.LoneSync
import Derived.Lib.SliceRun
import Derived.Deep.RegionHeld3
import Derived.Deep.RegionWith
import Derived.Laws.StructEq
import Derived.ChangeKeysEq
import Derived.BigQuiet
import Derived.BigRegion
import Derived.Deep.QuietTactic
namespace Go.Proofs.YtapkjbefdooclaaDoor
open Go.RowKit
set_option linter.unusedVariables false
set_option maxHeartbeats 1000000

theorem wideAct : Wide Tryd.prog 31 3 := ⟨⟨_, Tryd.underlying31, by rfl⟩, by kernel_rfl⟩
theorem loadAct (x : Value) : Instr.loadAt 31 x = loadS 31 3 x := rfl
theorem storeAct (x y : Value) : Instr.storeAt 31 x y = storeS 31 3 x y := rfl
/-- Acts compared. -/
theorem act_eqIn (a b : Sact) (w : World) : (Op.equalIn 10000 31 (.agg (sac a)) (.agg (sac b))).run Tryd.prog w = .ok (decide (a = b)) w := by
  have h0 := fun a => run_part_plain (P := Tryd.prog) w (e := 3) (by kernel_rfl) (sac_kd a)
  have h1 := fun a => run_part_plain (P := Tryd.prog) w (e := 3) (by kernel_rfl) (sac_co a)
  have h2 := fun a => run_part_plain (P := Tryd.prog) w (e := 3) (by kernel_rfl) (sac_li a)
  have e0 := fun a b => run_equalIn_int w 9998 3 .i64 .i64 a b Tryd.underlying3
  rw [run_equalIn_struct w 9999 31 _ _ (by simp only [Program.fieldsOf, Tryd.underlying31]) (by kernel_rfl)]
  simp only [Program.fieldsOf, Tryd.underlying31]
  cases a; cases b
  rename_i x1 x2 x3 y1 y2 y3
  simp [Op.eqFields, h0, h1, h2, e0]
  by_cases x : x1 = y1 <;> by_cases y : x2 = y2 <;> by_cases z : x3 = y3 <;> simp [*]
attribute [local go_sem ↓] act_eqIn
set_option maxRecDepth 100000
attribute [local go_sem ↓] append_appS copy_copS clear_clrS make_mkS slice_slS index_ixS conv_cvS cell_row frozen_row loadAct storeAct heap_drew heap_drewN heap_alloc heap_past heap_setCell heap_putRow sac_kd sac_co sac_li act_eqIn
attribute [local go_sem] rowCell_some rowFrozen_some rowHas_some rowIn_some rowPart_full rowPart_lit rowPut_full rowPut_lit rowSet_some size_putRow wideAct run_loadS run_storeS run_appS run_copS run_clrS run_mkS run_slS run_ixS run_cvS loadW_at storeW_at fit_all fit_le one_int one_bool one_pointer one_slice allOne_list putRow_new ne_size1 ne_size2 ne_size3 ne_size4 sac_size sac_one fold_sac fold_sac2 str_size sac_lit sac_ne sac_set0 sac_set1 sac_set2
attribute [local simp ↓] heap_drew heap_drewN heap_alloc heap_past heap_setCell heap_putRow
attribute [local simp] rowCell_some rowFrozen_some rowHas_some rowIn_some rowPart_full rowPart_lit rowPut_full rowPut_lit rowSet_some size_putRow fit_all putRow_new ne_size1 ne_size2 ne_size3 ne_size4 sac_size
theorem rcore_any16 (k : Int) (w : World) : Calls Tryd.prog 17 #[.int .i64 k] w fun e w' => e = .returned (.bool (coreK k)) ∧ w = w' := by
  unfold coreK
  by_cases h : 1 ≤ k
  · have t1 : decide (1 ≤ k) = true := by simpa using h
    by_cases h2 : k ≤ 5
    · have t2 : decide (k ≤ 5) = true := by simpa using h2
      rw [t1, t2]
      clear h h2
      go_enter Tryd.func17, Tryd.ntmps17
      go_wp2
      go_ret
      exact ⟨by simp, rfl⟩
    · have t2 : decide (k ≤ 5) = false := by simpa using h2
      rw [t1, t2]
      clear h h2
      go_enter Tryd.func17, Tryd.ntmps17
      go_wp2
      go_ret
      exact ⟨by simp, rfl⟩
  · have t1 : decide (1 ≤ k) = false := by simpa using h
    rw [t1]
    clear h
    go_enter Tryd.func17, Tryd.ntmps17
    go_wp2
    go_ret
    exact ⟨by simp, rfl⟩
theorem rline_any16 (k : Int) (w : World) : Calls Tryd.prog 18 #[.int .i64 k] w fun e w' => e = .returned (.bool (lineK k)) ∧ w = w' := by
  unfold lineK
  cases t1 : (k == 6) <;> cases t2 : (k == 7) <;> cases t3 : (k == 8)
  all_goals
    go_enter Tryd.func18, Tryd.ntmps18
    go_wp2
    go_ret
    exact ⟨by simp, rfl⟩
/-! ### Which acts have a form -/
theorem sgood_any (a : Sact) (W : World) (ht : KTab W) : Calls Tryd.prog 10 #[.agg (sac a)] W fun e w' => e = .returned (.bool (gdA a)) ∧ Chg [] W w' := by
  by_cases h0 : a.kd < 0
  · have t1 : decide (a.kd < 0) = true := by simpa using h0
    rw [show gdA a = false by simp [gdA, kindK]; omega]
    clear h0
    go_enter Tryd.func10, Tryd.ntmps10
    go_wp2
    go_ret
    exact ⟨rfl, (Chg.refl _ _).alloc _⟩
  by_cases h1 : 11 ≤ a.kd
  · have t1 : decide (a.kd < 0) = false := by simpa using h0
    have t2 : decide (11 ≤ a.kd) = true := by simpa using h1
    rw [show gdA a = false by simp [gdA, kindK]; omega]
    clear h0 h1
    go_enter Tryd.func10, Tryd.ntmps10
    go_wp2
    go_ret
    exact ⟨rfl, (Chg.refl _ _).alloc _⟩
  obtain ⟨k, hk⟩ := Int.eq_ofNat_of_zero_le (a := a.kd) (by omega)
  have hk11 : k < 11 := by omega
  obtain ⟨rw1, rw2⟩ := kd_row k hk11
  have hg : gdA a = ((decide (0 ≤ a.co) && decide (a.co < nCo k)) && (decide (0 ≤ a.li) && decide (a.li < nLi k))) := by
    unfold gdA
    rw [hk]
    cases hx : kindK (k : Int)
    · simp [nCo, hx]; omega
    · simp
  rw [hg]
  have t1 : decide (a.kd < 0) = false := by simpa using h0
  have t2 : decide (11 ≤ a.kd) = false := by simpa using h1
  have g1 : (0 : Int) ≤ (k : Int) := by omega
  have g2 : (k : Int) < 11 := by omega
  obtain ⟨T, F, hb⟩ := ht
  have ob := old hb
  have hsK : (sac a)[0]? = some (.int .i64 (k : Int)) := by rw [sac_kd, hk]
  clear h0 h1 hg
  generalize nCo k = N1 at rw1 ⊢
  generalize nLi k = N2 at rw2 ⊢
  cases c1 : decide (0 ≤ a.co) <;> cases c2 : decide (a.co < N1) <;> cases c3 : decide (0 ≤ a.li) <;> cases c4 : decide (a.li < N2)
  all_goals
    go_enter Tryd.func10, Tryd.ntmps10
    go_wp2_with fail
    go_quiet (fail)
    go_wp2_with fail
    go_ret
    exact ⟨by simp, ((Chg.refl _ _).alloc _).drewN _⟩
end Go.Proofs.YtapkjbefdooclaaDoor
