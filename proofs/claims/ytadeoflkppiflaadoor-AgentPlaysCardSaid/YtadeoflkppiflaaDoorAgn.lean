/- Agn: walked. No condition. -/
import Derived.Test.YtadeoflkppiflaaDoorAgf
import Derived.Test.YtadeoflkppiflaaDoorAgm
import Derived.Test.YtadeoflkppiflaaDoorArrw
import Derived.Test.YtadeoflkppiflaaDoorMsgr
import Derived.BigQuiet
import Derived.Deep.RegionWith
import Derived.Deep.RegionHeld3
import Derived.Deep.QuietTactic
import Derived.Deep.Cut
import Derived.Deep.CutBlock
import Derived.Deep.CutRange
import Derived.Deep.DeepCutAuto
namespace Go.Proofs.YtadeoflkppiflaaDoor
open Go.RowKit
set_option linter.unusedVariables false
set_option maxHeartbeats 1000000
attribute [local go_sem ↓] append_appS copy_copS clear_clrS make_mkS cell_row frozen_row loadLine storeLine loadSlot storeSlot heap_drew heap_drewN heap_alloc heap_past heap_setCell heap_putRow vs_get slc_st slc_li slc_us slice_slS loadMsg storeMsg loadHas storeHas msc_kd msc_li msc_di msc_ke
attribute [local go_sem] rowCell_some rowFrozen_some rowHas_some rowIn_some rowPart_full rowPart_lit rowPut_full rowPut_lit rowSet_some size_putRow vs_size vs_one wideLine wideSlot run_loadS run_storeS run_appS run_copS run_clrS run_mkS loadW_at storeW_at fit_all fit_le one_int one_bool one_pointer one_slice allOne_list putRow_new ne_size1 ne_size2 ne_size3 ne_size4 zero8_length line_eq lit8 slc_size slc_one slc_part slc_in fold_slt fold_slc slc_set_us wideMsg wideHas run_slS msc_size msc_one msc_part msc_in fold_msc msc_putDi msc_putKe msc_putX msc_has ms4_lit ms4_k ms4_l ms4_e
attribute [local simp ↓] heap_drew heap_drewN heap_alloc heap_past heap_setCell heap_putRow
attribute [local simp] rowCell_some rowFrozen_some rowHas_some rowIn_some rowPart_full rowPart_lit rowPut_full rowPut_lit rowSet_some size_putRow vs_size fit_all putRow_new ne_size1 ne_size2 ne_size3 ne_size4 zero8_length slc_size msc_size msc_putDi msc_putKe msc_putX msc_has fit_le ms4_k ms4_l ms4_e


/-! ### A step's cells -/
structure GStp where
  kd : Int
  li : Int
  wd : Int
  v : Int
  m : Ms
def GStp.enc (x : GStp) : List Value := .int .i64 x.kd :: .int .i64 x.li :: .int .i64 x.wd :: .int .u64 x.v :: Ms.enc x.m
def gsc (x : GStp) : Array Value := (GStp.enc x).toArray
theorem gsc_size (x : GStp) : (gsc x).size = 16 := by simp [gsc, GStp.enc, Ms.len]
theorem gsc_one (x : GStp) : allOne (gsc x) := allOne_list _ (List.all_eq_true.2 (by
  intro v hv
  simp only [GStp.enc, List.mem_cons] at hv
  rcases hv with rfl | rfl | rfl | rfl | hv
  · rfl
  · rfl
  · rfl
  · rfl
  · exact Ms.one _ v hv))
theorem gsc_kd (x : GStp) : (gsc x)[0]? = some (.int .i64 x.kd) := by simp [gsc, GStp.enc]
theorem gsc_li (x : GStp) : (gsc x)[1]? = some (.int .i64 x.li) := by simp [gsc, GStp.enc]
theorem gsc_wd (x : GStp) : (gsc x)[2]? = some (.int .i64 x.wd) := by simp [gsc, GStp.enc]
theorem gsc_v (x : GStp) : (gsc x)[3]? = some (.int .u64 x.v) := by simp [gsc, GStp.enc]
theorem gsc_part (x : GStp) (t : TypeId) (f : Nat × Nat) : rowPart (some (.cells (gsc x) t f)) 4 12 = msc x.m := by
  rw [rowPart_some]
  simp [gsc, GStp.enc, msc, Ms.len, List.take_of_length_le]
theorem gsc_in (x : GStp) (t : TypeId) (f : Nat × Nat) : rowIn (some (.cells (gsc x) t f)) 4 12 = true := by
  rw [rowIn_some, gsc_size]; exact decide_eq_true (show 4 + 12 ≤ 16 by omega)
theorem wideGSt : Wide Tryd.prog 37 16 := ⟨⟨_, Tryd.underlying37, by rfl⟩, by kernel_rfl⟩
theorem loadGSt (x : Value) : Instr.loadAt 37 x = loadS 37 16 x := rfl
theorem storeGSt (x y : Value) : Instr.storeAt 37 x y = storeS 37 16 x y := rfl
attribute [local go_sem ↓] loadGSt storeGSt gsc_kd gsc_li gsc_wd gsc_v
attribute [local go_sem] wideGSt gsc_size gsc_one gsc_part gsc_in
attribute [local simp] gsc_size
/-! ### Calls of an agent that nobody made -/
theorem gload_nil (li k : Int) (w : World) : Calls Tryd.prog 7 #[.pointer none, .int .i64 li, .int .i64 k] w fun e w' => e = .returned (.tuple #[.int .u64 0, .bool false, .slice none 0 0]) ∧ w = w' := by
  go_enter Tryd.func7, Tryd.ntmps7
  try dsimp only [List.append]
  go_wp2_with fail
  go_ret3
  exact ⟨rfl, rfl⟩
theorem gstore_nil (li k v : Int) (w : World) : Calls Tryd.prog 10 #[.pointer none, .int .i64 li, .int .i64 k, .int .u64 v] w fun e w' => e = .returned (.tuple #[.bool false, .slice none 0 0]) ∧ w = w' := by
  go_enter Tryd.func10, Tryd.ntmps10
  try dsimp only [List.append]
  go_wp2_with fail
  go_ret2
  exact ⟨rfl, rfl⟩
theorem ghear_nil (m : Ms) (w : World) : Calls Tryd.prog 12 #[.pointer none, .agg (msc m)] w fun e w' => e = .returned (.tuple #[.slice none 0 0, .int .i64 1]) ∧ Chg [] w w' := by
  go_enter Tryd.func12, Tryd.ntmps12
  try dsimp only [List.append]
  go_wp2_with fail
  go_ret2
  exact ⟨rfl, by (repeat' (first | with_reducible exact Chg.refl _ _ | with_reducible assumption | with_reducible refine Chg.drew ?_ | with_reducible refine Chg.drewN ?_ _ | with_reducible refine Chg.alloc ?_ _ | with_reducible refine Chg.putRow ?_ _ _ _ (.inr ?_) | with_reducible refine Chg.setCell ?_ _ _ _ (.inr ?_)  | (show _ ≤ _; first | exact Nat.le_refl _ | omega | (simp; done))))⟩
theorem gevict_nil (li : Int) (w : World) : Calls Tryd.prog 14 #[.pointer none, .int .i64 li] w fun e w' => e = .returned (.tuple #[.slice none 0 0, .int .i64 1]) ∧ w = w' := by
  go_enter Tryd.func14, Tryd.ntmps14
  try dsimp only [List.append]
  go_wp2_with fail
  go_ret2
  exact ⟨rfl, rfl⟩
theorem greach_nil (li : Int) (w : World) : Calls Tryd.prog 16 #[.pointer none, .int .i64 li] w fun e w' => e = .returned (.slice none 0 0) ∧ w = w' := by
  go_enter Tryd.func16, Tryd.ntmps16
  try dsimp only [List.append]
  go_wp2_with fail
  go_ret
  exact ⟨rfl, rfl⟩
theorem gowns_nil (li : Int) (w : World) : Calls Tryd.prog 23 #[.pointer none, .int .i64 li] w fun e w' => e = .returned (.bool false) ∧ w = w' := by
  go_enter Tryd.func23, Tryd.ntmps23
  try dsimp only [List.append]
  go_wp2_with fail
  go_ret
  exact ⟨rfl, rfl⟩
theorem gslots_nil  (w : World) : Calls Tryd.prog 19 #[.pointer none] w fun e w' => e = .returned (.slice none 0 0) ∧ w = w' := by
  go_enter Tryd.func19, Tryd.ntmps19
  try dsimp only [List.append]
  go_wp2_with fail
  go_ret
  exact ⟨rfl, rfl⟩
theorem gidle_nil (w : World) : Calls Tryd.prog 21 #[.pointer none] w fun e w' => e = .returned (.bool true) ∧ w = w' := by
  go_enter Tryd.func21, Tryd.ntmps21
  try dsimp only [List.append]
  go_wp2_with (go_at_call 19; refine (gslots_nil _).mono ?_; rintro e w' ⟨rfl, rfl⟩)
  go_loopw [8] (fun i wr => i = .int .i64 0 ∧ wr = w) (fun i _ => 0)
  case atStart => exact ⟨rfl, rfl⟩
  case round =>
    obtain ⟨rfl, rfl⟩ := hrel
    go_wp2_with fail
    go_ret
    exact ⟨rfl, rfl⟩
end Go.Proofs.YtadeoflkppiflaaDoor
