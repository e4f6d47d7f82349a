/- What a statement of layer 13 needs further: by parts. No condition. -/
import Derived.Test.YtcjoinhngdfdmaaGreatDoorCFa
import Derived.Test.YtcjoinhngdfdmaaGreatDoorCFe
import Derived.Test.YtcjoinhngdfdmaaGreatDoorCFf
import Derived.Test.YtcjoinhngdfdmaaGreatDoorCFg
import Derived.Test.YtcjoinhngdfdmaaGreatDoorCNaq
import Derived.Below
import Derived.BigQuiet
import Derived.ChangeKeysEq
import Derived.Deep.MidRow
import Derived.Deep.QuietTactic
import Derived.Deep.RegionHeld3
import Derived.Deep.RegionWith
import Derived.DeepKeys
import Derived.Laws.BitsAllLaws
import Derived.Laws.Entries
import Derived.Laws.LoneSync
import Derived.Laws.StructEq
import Derived.Lib.Hide
import Derived.Lib.SliceRun
import Derived.OpenShut
import Derived.ProofKit
import Derived.Test.YtcjoinhngdfdmaaGreatDoorChecked
import Derived.WalkKit
section
namespace Go.Proofs.YtcjoinhngdfdmaaGreatDoor
open Go.RowKit
set_option linter.unusedVariables false
set_option maxHeartbeats 1000000
set_option maxRecDepth 100000
attribute [local go_sem ↓] append_appS copy_copS clear_clrS make_mkS slice_slS cell_row frozen_row loadLine storeLine loadMsg storeMsg heap_drew heap_drewN heap_alloc heap_past heap_setCell heap_putRow vs_get msc_kd msc_li msc_di msc_ke
attribute [local go_sem] rowCell_some rowFrozen_some rowHas_some rowIn_some rowPart_full rowPart_lit rowPut_full rowPut_lit rowSet_some size_putRow vs_size vs_one wideLine wideMsg run_loadS run_storeS run_appS run_copS run_clrS run_mkS run_slS loadW_at storeW_at fit_all fit_le one_int one_bool one_pointer one_slice allOne_list putRow_new ne_size1 ne_size2 ne_size3 ne_size4 zero8_length line_eq lit8 msc_size msc_one msc_part msc_in fold_msc
attribute [local simp ↓] heap_drew heap_drewN heap_alloc heap_past heap_setCell heap_putRow
attribute [local simp] rowCell_some rowFrozen_some rowHas_some rowIn_some rowPart_full rowPart_lit rowPut_full rowPut_lit rowSet_some size_putRow vs_size fit_all putRow_new ne_size1 ne_size2 ne_size3 ne_size4 zero8_length msc_size
attribute [local go_sem ↓] ec_he ec_di ec_ow ec_sh ec_bu ec_by ec_wa sc_to
attribute [local go_sem] mi_and mi_or mi_not mi_beq0 mi_bne0 ec_size ec_one ec_part ec_in ec_has ec_setDi ec_setOw ec_setSh ec_setBu ec_setBy ec_setWa ec_setSh0 ec_setWa0 ec_putM sc_size sc_one sc_part sc_in
attribute [local simp] ec_size sc_size ec_setDi ec_setOw ec_setSh ec_setBu ec_setBy ec_setWa ec_setSh0 ec_setWa0 ec_putM
attribute [local go_sem ↓] loadEn storeEn loadSd storeSd en_z0
attribute [local go_sem] wideEn wideSd fold_sc size11 putRow_newB putRow_newC ms5_lit
attribute [local simp] en_z0 putRow_newB putRow_newC fit_le ec_has


attribute [local go_sem ↓] loadDd storeDd ddv_lit
attribute [local go_sem] wideDd ddv_one
theorem ddeeds_any (w : World) : Calls Tryz.prog 98 #[] w fun e w' => e = .returned (.agg ddv) ∧ Chg [] w w' := by
  have hz : ddv.size = 6 := rfl
  go_enter Tryz.func98, Tryz.ntmps98
  try dsimp only [List.append]
  go_wp2
  refine bodyPost_ret (v := .agg ddv) ?_ (by rfl) ?_
  · have hb : (w.alloc (.cells ddv 196)).heap[w.heap.size]? = some (.cells ddv 196 (0, 0)) := by simp
    have := run_loadVar_row (P := Tryz.prog) (w.alloc (.cells ddv 196)) w.heap.size 196 196 ddv (0, 0) _ hb Tryz.underlying196 rfl (by kernel_rfl)
    simp [results, asAddr, this]
  exact ⟨rfl, by (repeat' (first | with_reducible exact Chg.refl _ _ | with_reducible assumption | with_reducible refine Chg.drew ?_ | with_reducible refine Chg.drewN ?_ _ | with_reducible refine Chg.alloc ?_ _ | with_reducible refine Chg.putRow ?_ _ _ _ (.inr ?_) | with_reducible refine Chg.setCell ?_ _ _ _ (.inr ?_)  | (show _ ≤ _; first | exact Nat.le_refl _ | omega | (simp; done))))⟩

theorem ddv_at1 (W : World) : (Instr.index 196 (.agg ddv) (.int .i64 1)).run Tryz.prog W = .ok (.func (.func 148) #[] #[]) W := by rfl
theorem ddv_at2 (W : World) : (Instr.index 196 (.agg ddv) (.int .i64 2)).run Tryz.prog W = .ok (.func (.func 149) #[] #[]) W := by rfl
theorem ddv_at3 (W : World) : (Instr.index 196 (.agg ddv) (.int .i64 3)).run Tryz.prog W = .ok (.func (.func 150) #[] #[]) W := by rfl
theorem ddv_at4 (W : World) : (Instr.index 196 (.agg ddv) (.int .i64 4)).run Tryz.prog W = .ok (.func (.func 151) #[] #[]) W := by rfl
theorem ddv_at5 (W : World) : (Instr.index 196 (.agg ddv) (.int .i64 5)).run Tryz.prog W = .ok (.func (.func 152) #[] #[]) W := by rfl
theorem mgood_at (m : Ms) (b : Bool) (h : mg m = b) (w : World) (ht : Tab w) : Calls Tryz.prog 96 #[.agg (msc m)] w fun e w' => e = .returned (.bool b) ∧ Chg [] w w' := h ▸ mgood_any m w ht
theorem asks_at (k : Int) (b : Bool) (h : asksB k = b) (w : World) : Calls Tryz.prog 97 #[.int .i64 k] w fun e w' => e = .returned (.bool b) ∧ w = w' := h ▸ asks_any k w
theorem En3.err (w w' : World) (n : Int) (h : Chg [] w w') : En3 w ((enZ, []), n) (.returned (.tuple #[.agg (ec enZ), .slice none 0 0, .int .i64 n])) w' := ⟨none, 0, rfl, ⟨rfl, .inl rfl⟩, by simp, h⟩
theorem call_enter {P : Program} {f : FuncId} {fn : Func} {c : Code} (hf : P.funcs[f]? = some fn) (hname : (fn.name == "runtime.NumGoroutine") = false) (hb : fn.body = some c) (args : Array Value) (w : World) :
    (callFunc f args).run P w = .ok (.enter f args) w := by
  have h1 : fn.name ≠ "runtime.NumGoroutine" := by simpa using hname
  simp [callFunc, hf, h1, hb]
theorem deed_of (x : En) (c : Int) (m : Ms) (h : asksB m.kd = true) : ∃ K : Nat, (∀ W, (Instr.index 196 (.agg ddv) (.int .i64 m.kd)).run Tryz.prog W = .ok (.func (.func K) #[] #[]) W) ∧
    (∀ args W, (callFunc K args).run Tryz.prog W = .ok (.enter K args) W) ∧ ∀ W, Old W 0 → Calls Tryz.prog K #[.agg (ec x), .int .i64 c, .agg (msc m)] W (EnSds W (deedE x c m)) := by
  have hk : m.kd = 1 ∨ m.kd = 2 ∨ m.kd = 3 ∨ m.kd = 4 ∨ m.kd = 5 := by simp [asksB] at h; omega
  rcases hk with hk | hk | hk | hk | hk
  · exact ⟨_, by rw [hk]; exact ddv_at1, call_enter Tryz.func148 (by kernel_rfl) rfl, fun W h0 => by rw [show deedE x c m = getSE x c m by simp [deedE, hk]]; exact dgetS_any x c m W h0⟩
  · exact ⟨_, by rw [hk]; exact ddv_at2, call_enter Tryz.func149 (by kernel_rfl) rfl, fun W h0 => by rw [show deedE x c m = getME x c m by simp [deedE, hk]]; exact dgetM_any x c m W h0⟩
  · exact ⟨_, by rw [hk]; exact ddv_at3, call_enter Tryz.func150 (by kernel_rfl) rfl, fun W h0 => by rw [show deedE x c m = putE x c m by simp [deedE, hk]]; exact dput_any x c m W h0⟩
  · exact ⟨_, by rw [hk]; exact ddv_at4, call_enter Tryz.func151 (by kernel_rfl) rfl, fun W h0 => by rw [show deedE x c m = cleanE x c m by simp [deedE, hk]]; exact dclean_any x c m W h0⟩
  · exact ⟨_, by rw [hk]; exact ddv_at5, call_enter Tryz.func152 (by kernel_rfl) rfl, fun W h0 => by rw [show deedE x c m = wipeE x c m by simp [deedE, hk]]; exact dwipe_any x c m W h0⟩

set_option maxHeartbeats 8000000 in
theorem dask_any (x : En) (c : Int) (m : Ms) (w : World) (ht : Tab w) : Calls Tryz.prog 55 #[.agg (ec x), .int .i64 c, .agg (msc m)] w (En3 w (askE x c m)) := by
  cases g1 : goodE x
  · skip
    rw [show askE x c m = ((enZ, []), 1) from by simp [askE, askArg, g1]]
    go_enter Tryz.func55, Tryz.ntmps55
    try dsimp only [List.append]
    go_wp2_with fail
    refine gen_calls3 (w := w) (b1 := w.heap.size) (x1 := .cells (ec (x)) 129 (0, 0)) (b2 := w.heap.size + 1) (x2 := .cells (msc m) 50 (0, 0)) (b3 := w.heap.size + 2) (x3 := .cells (ec (enZ)) 129 (0, 0)) (by (repeat' (first | with_reducible exact Chg.refl _ _ | with_reducible assumption | with_reducible refine Chg.drew ?_ | with_reducible refine Chg.drewN ?_ _ | with_reducible refine Chg.alloc ?_ _ | with_reducible refine Chg.putRow ?_ _ _ _ (.inr ?_) | with_reducible refine Chg.setCell ?_ _ _ _ (.inr ?_)  | (show _ ≤ _; first | exact Nat.le_refl _ | omega | (simp; done))))) (by simp [*]) (by simp [*]) (by simp [*]) fun w1 C1 rE rM rR => ?_
    have oE := old rE
    have oM := old rM
    have oR := old rR
    refine (dgood_at x _ g1 w1).mono ?_
    rintro e w3 ⟨rfl, c3⟩
    have rE3 := c3.keep rE (by simp)
    have rM3 := c3.keep rM (by simp)
    have rR3 := c3.keep rR (by simp)
    have C3 := C1.trans c3
    have o3 := ht.keep C3 (by simp)
    clear rE rM rR oE oM oR C1 c3
    have oE3 := old rE3
    have oM3 := old rM3
    have oR3 := old rR3
    go_wp2_with fail
    refine bodyPost_ret (v := .tuple #[.agg (ec enZ), .slice none 0 0, .int .i64 1]) ?_ (by rfl) ?_
    · exact results_en3 (by rfl) _ _ (w.heap.size + 2) enZ (0, 0) (by rfl) (by simp [rR3]; try rfl) _ _ (by rfl) (by rfl)
    exact En3.err _ _ _ (by (repeat' (first | with_reducible exact Chg.refl _ _ | with_reducible assumption | with_reducible refine Chg.drew ?_ | with_reducible refine Chg.drewN ?_ _ | with_reducible refine Chg.alloc ?_ _ | with_reducible refine Chg.putRow ?_ _ _ _ (.inr ?_) | with_reducible refine Chg.setCell ?_ _ _ _ (.inr ?_)  | (show _ ≤ _; first | exact Nat.le_refl _ | omega | (simp; done)))))
  cases g2 : isC c
  · skip
    rw [show askE x c m = ((enZ, []), 1) from by simp [askE, askArg, g2]]
    go_enter Tryz.func55, Tryz.ntmps55
    try dsimp only [List.append]
    go_wp2_with fail
    refine gen_calls3 (w := w) (b1 := w.heap.size) (x1 := .cells (ec (x)) 129 (0, 0)) (b2 := w.heap.size + 1) (x2 := .cells (msc m) 50 (0, 0)) (b3 := w.heap.size + 2) (x3 := .cells (ec (enZ)) 129 (0, 0)) (by (repeat' (first | with_reducible exact Chg.refl _ _ | with_reducible assumption | with_reducible refine Chg.drew ?_ | with_reducible refine Chg.drewN ?_ _ | with_reducible refine Chg.alloc ?_ _ | with_reducible refine Chg.putRow ?_ _ _ _ (.inr ?_) | with_reducible refine Chg.setCell ?_ _ _ _ (.inr ?_)  | (show _ ≤ _; first | exact Nat.le_refl _ | omega | (simp; done))))) (by simp [*]) (by simp [*]) (by simp [*]) fun w1 C1 rE rM rR => ?_
    have oE := old rE
    have oM := old rM
    have oR := old rR
    refine (dgood_at x _ g1 w1).mono ?_
    rintro e w3 ⟨rfl, c3⟩
    have rE3 := c3.keep rE (by simp)
    have rM3 := c3.keep rM (by simp)
    have rR3 := c3.keep rR (by simp)
    have C3 := C1.trans c3
    have o3 := ht.keep C3 (by simp)
    clear rE rM rR oE oM oR C1 c3
    have oE3 := old rE3
    have oM3 := old rM3
    have oR3 := old rR3
    go_wp2_with (go_at_call 95; refine (dcore_at _ _ g2 _).mono ?_; rintro e w' ⟨rfl, rfl⟩)
    refine bodyPost_ret (v := .tuple #[.agg (ec enZ), .slice none 0 0, .int .i64 1]) ?_ (by rfl) ?_
    · exact results_en3 (by rfl) _ _ (w.heap.size + 2) enZ (0, 0) (by rfl) (by simp [rR3]; try rfl) _ _ (by rfl) (by rfl)
    exact En3.err _ _ _ (by (repeat' (first | with_reducible exact Chg.refl _ _ | with_reducible assumption | with_reducible refine Chg.drew ?_ | with_reducible refine Chg.drewN ?_ _ | with_reducible refine Chg.alloc ?_ _ | with_reducible refine Chg.putRow ?_ _ _ _ (.inr ?_) | with_reducible refine Chg.setCell ?_ _ _ _ (.inr ?_)  | (show _ ≤ _; first | exact Nat.le_refl _ | omega | (simp; done)))))
  cases g3 : mg m
  · skip
    rw [show askE x c m = ((enZ, []), 1) from by simp [askE, askArg, g3]]
    go_enter Tryz.func55, Tryz.ntmps55
    try dsimp only [List.append]
    go_wp2_with fail
    refine gen_calls3 (w := w) (b1 := w.heap.size) (x1 := .cells (ec (x)) 129 (0, 0)) (b2 := w.heap.size + 1) (x2 := .cells (msc m) 50 (0, 0)) (b3 := w.heap.size + 2) (x3 := .cells (ec (enZ)) 129 (0, 0)) (by (repeat' (first | with_reducible exact Chg.refl _ _ | with_reducible assumption | with_reducible refine Chg.drew ?_ | with_reducible refine Chg.drewN ?_ _ | with_reducible refine Chg.alloc ?_ _ | with_reducible refine Chg.putRow ?_ _ _ _ (.inr ?_) | with_reducible refine Chg.setCell ?_ _ _ _ (.inr ?_)  | (show _ ≤ _; first | exact Nat.le_refl _ | omega | (simp; done))))) (by simp [*]) (by simp [*]) (by simp [*]) fun w1 C1 rE rM rR => ?_
    have oE := old rE
    have oM := old rM
    have oR := old rR
    refine (dgood_at x _ g1 w1).mono ?_
    rintro e w3 ⟨rfl, c3⟩
    have rE3 := c3.keep rE (by simp)
    have rM3 := c3.keep rM (by simp)
    have rR3 := c3.keep rR (by simp)
    have C3 := C1.trans c3
    have o3 := ht.keep C3 (by simp)
    clear rE rM rR oE oM oR C1 c3
    have oE3 := old rE3
    have oM3 := old rM3
    have oR3 := old rR3
    go_wp2_with ((go_at_call 95; refine (dcore_at _ _ g2 _).mono ?_; rintro e w' ⟨rfl, rfl⟩))
    refine (mgood_at m _ g3 w3 o3).mono ?_
    rintro e w4 ⟨rfl, c4⟩
    have rE4 := c4.keep rE3 (by simp)
    have rM4 := c4.keep rM3 (by simp)
    have rR4 := c4.keep rR3 (by simp)
    have C4 := C3.trans c4
    have o4 := ht.old0.chg C4
    clear rE3 rM3 rR3 oE3 oM3 oR3 C3 c4 o3
    have oE4 := old rE4
    have oM4 := old rM4
    have oR4 := old rR4
    go_wp2_with fail
    refine bodyPost_ret (v := .tuple #[.agg (ec enZ), .slice none 0 0, .int .i64 1]) ?_ (by rfl) ?_
    · exact results_en3 (by rfl) _ _ (w.heap.size + 2) enZ (0, 0) (by rfl) (by simp [rR4]; try rfl) _ _ (by rfl) (by rfl)
    exact En3.err _ _ _ (by (repeat' (first | with_reducible exact Chg.refl _ _ | with_reducible assumption | with_reducible refine Chg.drew ?_ | with_reducible refine Chg.drewN ?_ _ | with_reducible refine Chg.alloc ?_ _ | with_reducible refine Chg.putRow ?_ _ _ _ (.inr ?_) | with_reducible refine Chg.setCell ?_ _ _ _ (.inr ?_)  | (show _ ≤ _; first | exact Nat.le_refl _ | omega | (simp; done)))))
  cases g4 : asksB m.kd
  · skip
    rw [show askE x c m = ((enZ, []), 1) from by simp [askE, askArg, g4]]
    go_enter Tryz.func55, Tryz.ntmps55
    try dsimp only [List.append]
    go_wp2_with fail
    refine gen_calls3 (w := w) (b1 := w.heap.size) (x1 := .cells (ec (x)) 129 (0, 0)) (b2 := w.heap.size + 1) (x2 := .cells (msc m) 50 (0, 0)) (b3 := w.heap.size + 2) (x3 := .cells (ec (enZ)) 129 (0, 0)) (by (repeat' (first | with_reducible exact Chg.refl _ _ | with_reducible assumption | with_reducible refine Chg.drew ?_ | with_reducible refine Chg.drewN ?_ _ | with_reducible refine Chg.alloc ?_ _ | with_reducible refine Chg.putRow ?_ _ _ _ (.inr ?_) | with_reducible refine Chg.setCell ?_ _ _ _ (.inr ?_)  | (show _ ≤ _; first | exact Nat.le_refl _ | omega | (simp; done))))) (by simp [*]) (by simp [*]) (by simp [*]) fun w1 C1 rE rM rR => ?_
    have oE := old rE
    have oM := old rM
    have oR := old rR
    refine (dgood_at x _ g1 w1).mono ?_
    rintro e w3 ⟨rfl, c3⟩
    have rE3 := c3.keep rE (by simp)
    have rM3 := c3.keep rM (by simp)
    have rR3 := c3.keep rR (by simp)
    have C3 := C1.trans c3
    have o3 := ht.keep C3 (by simp)
    clear rE rM rR oE oM oR C1 c3
    have oE3 := old rE3
    have oM3 := old rM3
    have oR3 := old rR3
    go_wp2_with ((go_at_call 95; refine (dcore_at _ _ g2 _).mono ?_; rintro e w' ⟨rfl, rfl⟩))
    refine (mgood_at m _ g3 w3 o3).mono ?_
    rintro e w4 ⟨rfl, c4⟩
    have rE4 := c4.keep rE3 (by simp)
    have rM4 := c4.keep rM3 (by simp)
    have rR4 := c4.keep rR3 (by simp)
    have C4 := C3.trans c4
    have o4 := ht.old0.chg C4
    clear rE3 rM3 rR3 oE3 oM3 oR3 C3 c4 o3
    have oE4 := old rE4
    have oM4 := old rM4
    have oR4 := old rR4
    go_wp2_with (go_at_call 97; refine (asks_at _ _ g4 _).mono ?_; rintro e w' ⟨rfl, rfl⟩)
    refine bodyPost_ret (v := .tuple #[.agg (ec enZ), .slice none 0 0, .int .i64 1]) ?_ (by rfl) ?_
    · exact results_en3 (by rfl) _ _ (w.heap.size + 2) enZ (0, 0) (by rfl) (by simp [rR4]; try rfl) _ _ (by rfl) (by rfl)
    exact En3.err _ _ _ (by (repeat' (first | with_reducible exact Chg.refl _ _ | with_reducible assumption | with_reducible refine Chg.drew ?_ | with_reducible refine Chg.drewN ?_ _ | with_reducible refine Chg.alloc ?_ _ | with_reducible refine Chg.putRow ?_ _ _ _ (.inr ?_) | with_reducible refine Chg.setCell ?_ _ _ _ (.inr ?_)  | (show _ ≤ _; first | exact Nat.le_refl _ | omega | (simp; done)))))
  have ga : askArg x c m = true := by simp [askArg, g1, g2, g3, g4]
  by_cases hb : x.bu = 0
  · have t1 : (x.bu != 0) = false := by simp [hb]
    cases hh : x.he
    · skip
      rw [show askE x c m = ((enZ, []), 16) from by simp [askE, ga, hb, hh]]
      clear ga
      go_enter Tryz.func55, Tryz.ntmps55
      try dsimp only [List.append]
      go_wp2_with fail
      refine gen_calls3 (w := w) (b1 := w.heap.size) (x1 := .cells (ec (x)) 129 (0, 0)) (b2 := w.heap.size + 1) (x2 := .cells (msc m) 50 (0, 0)) (b3 := w.heap.size + 2) (x3 := .cells (ec (enZ)) 129 (0, 0)) (by (repeat' (first | with_reducible exact Chg.refl _ _ | with_reducible assumption | with_reducible refine Chg.drew ?_ | with_reducible refine Chg.drewN ?_ _ | with_reducible refine Chg.alloc ?_ _ | with_reducible refine Chg.putRow ?_ _ _ _ (.inr ?_) | with_reducible refine Chg.setCell ?_ _ _ _ (.inr ?_)  | (show _ ≤ _; first | exact Nat.le_refl _ | omega | (simp; done))))) (by simp [*]) (by simp [*]) (by simp [*]) fun w1 C1 rE rM rR => ?_
      have oE := old rE
      have oM := old rM
      have oR := old rR
      refine (dgood_at x _ g1 w1).mono ?_
      rintro e w3 ⟨rfl, c3⟩
      have rE3 := c3.keep rE (by simp)
      have rM3 := c3.keep rM (by simp)
      have rR3 := c3.keep rR (by simp)
      have C3 := C1.trans c3
      have o3 := ht.keep C3 (by simp)
      clear rE rM rR oE oM oR C1 c3
      have oE3 := old rE3
      have oM3 := old rM3
      have oR3 := old rR3
      go_wp2_with ((go_at_call 95; refine (dcore_at _ _ g2 _).mono ?_; rintro e w' ⟨rfl, rfl⟩))
      refine (mgood_at m _ g3 w3 o3).mono ?_
      rintro e w4 ⟨rfl, c4⟩
      have rE4 := c4.keep rE3 (by simp)
      have rM4 := c4.keep rM3 (by simp)
      have rR4 := c4.keep rR3 (by simp)
      have C4 := C3.trans c4
      have o4 := ht.old0.chg C4
      clear rE3 rM3 rR3 oE3 oM3 oR3 C3 c4 o3
      have oE4 := old rE4
      have oM4 := old rM4
      have oR4 := old rR4
      go_wp2_with (go_at_call 97; refine (asks_at _ _ g4 _).mono ?_; rintro e w' ⟨rfl, rfl⟩)
      refine bodyPost_ret (v := .tuple #[.agg (ec enZ), .slice none 0 0, .int .i64 16]) ?_ (by rfl) ?_
      · exact results_en3 (by rfl) _ _ (w.heap.size + 2) enZ (0, 0) (by rfl) (by simp [rR4]; try rfl) _ _ (by rfl) (by rfl)
      exact En3.err _ _ _ (by (repeat' (first | with_reducible exact Chg.refl _ _ | with_reducible assumption | with_reducible refine Chg.drew ?_ | with_reducible refine Chg.drewN ?_ _ | with_reducible refine Chg.alloc ?_ _ | with_reducible refine Chg.putRow ?_ _ _ _ (.inr ?_) | with_reducible refine Chg.setCell ?_ _ _ _ (.inr ?_)  | (show _ ≤ _; first | exact Nat.le_refl _ | omega | (simp; done)))))
    · rw [show askE x c m = (deedE x c m, 0) from by simp [askE, ga, hb, hh]]
      clear ga hb
      obtain ⟨K, hix, hen, hd⟩ := deed_of x c m g4
      go_enter Tryz.func55, Tryz.ntmps55
      try dsimp only [List.append]
      go_wp2_with fail
      refine gen_calls3 (w := w) (b1 := w.heap.size) (x1 := .cells (ec (x)) 129 (0, 0)) (b2 := w.heap.size + 1) (x2 := .cells (msc m) 50 (0, 0)) (b3 := w.heap.size + 2) (x3 := .cells (ec (enZ)) 129 (0, 0)) (by (repeat' (first | with_reducible exact Chg.refl _ _ | with_reducible assumption | with_reducible refine Chg.drew ?_ | with_reducible refine Chg.drewN ?_ _ | with_reducible refine Chg.alloc ?_ _ | with_reducible refine Chg.putRow ?_ _ _ _ (.inr ?_) | with_reducible refine Chg.setCell ?_ _ _ _ (.inr ?_)  | (show _ ≤ _; first | exact Nat.le_refl _ | omega | (simp; done))))) (by simp [*]) (by simp [*]) (by simp [*]) fun w1 C1 rE rM rR => ?_
      have oE := old rE
      have oM := old rM
      have oR := old rR
      refine (dgood_at x _ g1 w1).mono ?_
      rintro e w3 ⟨rfl, c3⟩
      have rE3 := c3.keep rE (by simp)
      have rM3 := c3.keep rM (by simp)
      have rR3 := c3.keep rR (by simp)
      have C3 := C1.trans c3
      have o3 := ht.keep C3 (by simp)
      clear rE rM rR oE oM oR C1 c3
      have oE3 := old rE3
      have oM3 := old rM3
      have oR3 := old rR3
      go_wp2_with ((go_at_call 95; refine (dcore_at _ _ g2 _).mono ?_; rintro e w' ⟨rfl, rfl⟩))
      refine (mgood_at m _ g3 w3 o3).mono ?_
      rintro e w4 ⟨rfl, c4⟩
      have rE4 := c4.keep rE3 (by simp)
      have rM4 := c4.keep rM3 (by simp)
      have rR4 := c4.keep rR3 (by simp)
      have C4 := C3.trans c4
      have o4 := ht.old0.chg C4
      clear rE3 rM3 rR3 oE3 oM3 oR3 C3 c4 o3
      have oE4 := old rE4
      have oM4 := old rM4
      have oR4 := old rR4
      go_wp2_with (go_at_call 97; refine (asks_at _ _ g4 _).mono ?_; rintro e w' ⟨rfl, rfl⟩)
      have HT := Lib.hid ht
      have HC4 := Lib.hid C4
      have O4 := Lib.hid (ht.old0.chg C4)
      clear C4 o4 ht g1 g2 g3 g4 t1 hh
      go_region_with (first
          | (go_at_call 98; refine (ddeeds_any _).mono ?_; rintro e w' ⟨rfl, c5⟩; (have rE5 := c5.keep rE4 (by simp)); (have rR5 := c5.keep rR4 (by simp)); (have rM5 := c5.keep rM4 (by simp)); (have o5 : Old _ 0 := Old.chg (b := 0) (by first | exact O4.out | (show (0 : Nat) < _; exact O4.out.lt)) c5); (have z5 := c5.size))
          | (refine Calls.mono (hd _ ?_) ?_; exact o5; rintro e w' ⟨A2, n2, rfl, hs2, hA2, c2⟩; (have hA3 : ∀ a, A2 = some a → w4.heap.size ≤ a.block := (fun a ha => Nat.le_trans z5 (hA2 a ha))); (have rR2 := c2.keep rR5 (by simp)); (have rE2 := c2.keep rE5 (by simp))))
      all_goals
        have C4 := HC4.out
        go_wp2_with fail
        refine bodyPost_ret (v := .tuple #[.agg (ec (deedE x c m).1), .slice A2 (deedE x c m).2.length n2, .int .i64 0]) ?_ (by rfl) ?_
        · exact results_en3 (by rfl) _ _ (w.heap.size + 2) (deedE x c m).1 (0, 0) (by rfl) (by simp [rR2, rE2]; done) _ _ (by rfl) (by rfl)
        refine ⟨A2, n2, rfl, ?_, fun a ha => Nat.le_trans C4.size (hA3 a ha), by (repeat' (first | with_reducible exact Chg.refl _ _ | with_reducible assumption | with_reducible refine Chg.drew ?_ | with_reducible refine Chg.drewN ?_ _ | with_reducible refine Chg.alloc ?_ _ | with_reducible refine Chg.putRow ?_ _ _ _ (.inr ?_) | with_reducible refine Chg.setCell ?_ _ _ _ (.inr ?_)  | with_reducible refine Chg.trans ?_ c2 | with_reducible refine Chg.trans (b := World.drew _) ?_ c2 | with_reducible refine Chg.trans ?_ c5 | with_reducible refine Chg.trans (b := World.drew _) ?_ c5 | (show _ ≤ _; first | exact Nat.le_refl _ | omega | (simp; done))))⟩
        exact hs2.chg (((Chg.refl [w.heap.size, w.heap.size + 2] _).putRow _ _ _ (.inl (by simp))).putRow _ _ _ (.inl (by simp))) (by intro a ha; have := hA3 a ha; have := oR4.lt; have := oE4.lt; simp; omega)
  · have t1 : (x.bu != 0) = true := by simpa using hb
    rw [show askE x c m = ((enZ, []), 15) from by simp [askE, ga, hb]]
    clear ga hb
    go_enter Tryz.func55, Tryz.ntmps55
    try dsimp only [List.append]
    go_wp2_with fail
    refine gen_calls3 (w := w) (b1 := w.heap.size) (x1 := .cells (ec (x)) 129 (0, 0)) (b2 := w.heap.size + 1) (x2 := .cells (msc m) 50 (0, 0)) (b3 := w.heap.size + 2) (x3 := .cells (ec (enZ)) 129 (0, 0)) (by (repeat' (first | with_reducible exact Chg.refl _ _ | with_reducible assumption | with_reducible refine Chg.drew ?_ | with_reducible refine Chg.drewN ?_ _ | with_reducible refine Chg.alloc ?_ _ | with_reducible refine Chg.putRow ?_ _ _ _ (.inr ?_) | with_reducible refine Chg.setCell ?_ _ _ _ (.inr ?_)  | (show _ ≤ _; first | exact Nat.le_refl _ | omega | (simp; done))))) (by simp [*]) (by simp [*]) (by simp [*]) fun w1 C1 rE rM rR => ?_
    have oE := old rE
    have oM := old rM
    have oR := old rR
    refine (dgood_at x _ g1 w1).mono ?_
    rintro e w3 ⟨rfl, c3⟩
    have rE3 := c3.keep rE (by simp)
    have rM3 := c3.keep rM (by simp)
    have rR3 := c3.keep rR (by simp)
    have C3 := C1.trans c3
    have o3 := ht.keep C3 (by simp)
    clear rE rM rR oE oM oR C1 c3
    have oE3 := old rE3
    have oM3 := old rM3
    have oR3 := old rR3
    go_wp2_with ((go_at_call 95; refine (dcore_at _ _ g2 _).mono ?_; rintro e w' ⟨rfl, rfl⟩))
    refine (mgood_at m _ g3 w3 o3).mono ?_
    rintro e w4 ⟨rfl, c4⟩
    have rE4 := c4.keep rE3 (by simp)
    have rM4 := c4.keep rM3 (by simp)
    have rR4 := c4.keep rR3 (by simp)
    have C4 := C3.trans c4
    have o4 := ht.old0.chg C4
    clear rE3 rM3 rR3 oE3 oM3 oR3 C3 c4 o3
    have oE4 := old rE4
    have oM4 := old rM4
    have oR4 := old rR4
    go_wp2_with (go_at_call 97; refine (asks_at _ _ g4 _).mono ?_; rintro e w' ⟨rfl, rfl⟩)
    refine bodyPost_ret (v := .tuple #[.agg (ec enZ), .slice none 0 0, .int .i64 15]) ?_ (by rfl) ?_
    · exact results_en3 (by rfl) _ _ (w.heap.size + 2) enZ (0, 0) (by rfl) (by simp [rR4]; try rfl) _ _ (by rfl) (by rfl)
    exact En3.err _ _ _ (by (repeat' (first | with_reducible exact Chg.refl _ _ | with_reducible assumption | with_reducible refine Chg.drew ?_ | with_reducible refine Chg.drewN ?_ _ | with_reducible refine Chg.alloc ?_ _ | with_reducible refine Chg.putRow ?_ _ _ _ (.inr ?_) | with_reducible refine Chg.setCell ?_ _ _ _ (.inr ?_)  | (show _ ≤ _; first | exact Nat.le_refl _ | omega | (simp; done)))))
end Go.Proofs.YtcjoinhngdfdmaaGreatDoor
end
