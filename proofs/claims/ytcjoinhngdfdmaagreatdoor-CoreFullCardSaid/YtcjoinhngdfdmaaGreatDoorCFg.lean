/- What a statement of layer 13 needs further: by parts. No condition. -/
import Derived.Test.YtcjoinhngdfdmaaGreatDoorCFa
import Derived.Test.YtcjoinhngdfdmaaGreatDoorCFe
import Derived.Test.YtcjoinhngdfdmaaGreatDoorCFf
import Derived.Test.YtcjoinhngdfdmaaGreatDoorCNaq
import Derived.Below
import Derived.BigQuiet
import Derived.ChangeKeysEq
import Derived.Deep.MidRow
import Derived.Deep.QuietTactic
import Derived.Deep.RegionHeld3
import Derived.Deep.RegionWith
import Derived.DeepKeys
import Derived.Laws.BitsAllLaws
import Derived.Laws.Entries
import Derived.Laws.LoneSync
import Derived.Laws.StructEq
import Derived.Lib.Hide
import Derived.Lib.SliceRun
import Derived.OpenShut
import Derived.ProofKit
import Derived.Test.YtcjoinhngdfdmaaGreatDoorChecked
import Derived.WalkKit
section
namespace Go.Proofs.YtcjoinhngdfdmaaGreatDoor
open Go.RowKit
set_option linter.unusedVariables false
set_option maxHeartbeats 1000000
set_option maxRecDepth 100000
attribute [local go_sem ↓] append_appS copy_copS clear_clrS make_mkS slice_slS cell_row frozen_row loadLine storeLine loadMsg storeMsg heap_drew heap_drewN heap_alloc heap_past heap_setCell heap_putRow vs_get msc_kd msc_li msc_di msc_ke
attribute [local go_sem] rowCell_some rowFrozen_some rowHas_some rowIn_some rowPart_full rowPart_lit rowPut_full rowPut_lit rowSet_some size_putRow vs_size vs_one wideLine wideMsg run_loadS run_storeS run_appS run_copS run_clrS run_mkS run_slS loadW_at storeW_at fit_all fit_le one_int one_bool one_pointer one_slice allOne_list putRow_new ne_size1 ne_size2 ne_size3 ne_size4 zero8_length line_eq lit8 msc_size msc_one msc_part msc_in fold_msc
attribute [local simp ↓] heap_drew heap_drewN heap_alloc heap_past heap_setCell heap_putRow
attribute [local simp] rowCell_some rowFrozen_some rowHas_some rowIn_some rowPart_full rowPart_lit rowPut_full rowPut_lit rowSet_some size_putRow vs_size fit_all putRow_new ne_size1 ne_size2 ne_size3 ne_size4 zero8_length msc_size
attribute [local go_sem ↓] ec_he ec_di ec_ow ec_sh ec_bu ec_by ec_wa sc_to
attribute [local go_sem] mi_and mi_or mi_not mi_beq0 mi_bne0 ec_size ec_one ec_part ec_in ec_has ec_setDi ec_setOw ec_setSh ec_setBu ec_setBy ec_setWa ec_setSh0 ec_setWa0 ec_putM sc_size sc_one sc_part sc_in
attribute [local simp] ec_size sc_size ec_setDi ec_setOw ec_setSh ec_setBu ec_setBy ec_setWa ec_setSh0 ec_setWa0 ec_putM
attribute [local go_sem ↓] loadEn storeEn loadSd storeSd en_z0
attribute [local go_sem] wideEn wideSd fold_sc size11 putRow_newB putRow_newC ms5_lit
attribute [local simp] en_z0 putRow_newB putRow_newC fit_le ec_has


theorem dgetS_any (x : En) (c : Int) (m : Ms) (w : World) (h0 : Old w 0) : Calls Tryz.prog 148 #[.agg (ec x), .int .i64 c, .agg (msc m)] w (EnSds w (getSE x c m)) := by
  by_cases h : x.ow ≠ -1 ∧ x.ow ≠ c
  · have e1 : getSE x c m = waitE x c m (bitM x.ow) 13 := by unfold getSE; rw [if_pos h]
    rw [e1]
    have t0 : (x.ow != -1) = true := by simpa using h.1
    have t1 : (x.ow != c) = true := by simpa using h.2
    clear e1 h
    go_enter Tryz.func148, Tryz.ntmps148
    try dsimp only [List.append]
    go_wp2_with fail
    refine gen_world3 (w := w) (b1 := w.heap.size) (x1 := .cells (ec (x)) 129 (0, 0)) (b2 := w.heap.size + 1) (x2 := .cells (msc m) 50 (0, 0)) (b3 := w.heap.size + 2) (x3 := .cells (ec (enZ)) 129 (0, 0)) (by (repeat' (first | exact Chg.refl _ _ | assumption | exact Chg.refl [] _ | refine Chg.drew ?_ | refine Chg.drewN ?_ _ | refine Chg.alloc ?_ _ | refine Chg.putRow ?_ _ _ _ (.inr (by first | exact Nat.le_refl _ | omega | simp)) | refine Chg.setCell ?_ _ _ _ (.inr (by first | exact Nat.le_refl _ | omega | simp)) ))) (by simp [*]) (by simp [*]) (by simp [*]) fun w1 C1 rE rM rR => ?_
    have oE := old rE
    have oM := old rM
    have oR := old rR
    have o0 := h0.chg C1
    go_region_held3 (fun w' => w'.heap[w.heap.size]? = some (.cells (ec (x)) 129 (0, 0)) ∧ w'.heap[w.heap.size + 1]? = some (.cells (msc m) 50 (0, 0))) (first | exact ⟨rE, rM⟩ | exact ⟨c2.keep rE (by simp), c2.keep rM (by simp)⟩ | exact ⟨c2.keep (by simp [*]) (by simp), c2.keep (by simp [*]) (by simp)⟩ | simp [*])
      (first
        | (go_at_call 116; refine (gbit_any _ _).mono ?_; rintro e w' ⟨rfl, rfl⟩)
        | (go_at_call 181; refine (dwait_any _ _ _ _ _ _ ?_).mono ?_; exact (by first | exact o0 | exact o0.chg C1 | (show (0 : Nat) < _; simpa using o0.lt)); rintro e w' ⟨A2, n2, rfl, hs2, hA2, c2⟩; (have hA3 : ∀ a, A2 = some a → w1.heap.size ≤ a.block := (by simpa using hA2)); (first | (have rR2 := c2.keep rR (by simp)) | (have rR2 := c2.keep (x := .cells (ec (x)) 129 (0, 0)) (k := w.heap.size + 2) (by simp [rR]) (by simp)))))
    all_goals
      go_wp2_with fail
      refine bodyPost_ret (v := .tuple #[.agg (ec ((waitE x c m (bitM x.ow) 13).1)), .slice A2 (waitE x c m (bitM x.ow) 13).2.length n2]) ?_ (by rfl) ?_
      · exact results_en2 (by rfl) _ _ (w.heap.size + 2) _ (0, 0) (by rfl) (by first | exact rR2 | (simp [rR2]; done)) _ (by rfl)
      refine ⟨A2, n2, rfl, ?_, fun a ha => Nat.le_trans C1.size (hA3 a ha), by (repeat' (first | exact Chg.refl _ _ | assumption | exact Chg.refl [] _ | refine Chg.drew ?_ | refine Chg.drewN ?_ _ | refine Chg.alloc ?_ _ | refine Chg.putRow ?_ _ _ _ (.inr (by first | exact Nat.le_refl _ | omega | simp)) | refine Chg.setCell ?_ _ _ _ (.inr (by first | exact Nat.le_refl _ | omega | simp))  | refine Chg.trans ?_ c2))⟩
      first
        | exact hs2
        | exact hs2.chg ((Chg.refl [w.heap.size + 2] _).putRow _ _ _ (.inl (by simp))) (by intro a ha; have := hA3 a ha; have := oR.lt; simp; omega)
        | exact hs2.chg c3 (by simp)
        | exact (hs2.chg c3 (by simp)).chg ((Chg.refl [w.heap.size + 2] _).putRow _ _ _ (.inl (by simp))) (by intro a ha; have := hA3 a ha; have := oR.lt; simp; omega)

  · have h2 : (x.ow != -1) = false ∨ ((x.ow != -1) = true ∧ (x.ow != c) = false) := by
      by_cases a : x.ow = -1
      · exact .inl (by simp [a])
      · have b : x.ow = c := Decidable.byContradiction fun b => h ⟨a, b⟩
        exact .inr ⟨by simpa using a, by simp [b]⟩
    by_cases hs : x.sh = 0#8
    · have e1 : getSE x c m = ownedE x c 9 m.li := by unfold getSE; rw [if_neg h, if_pos hs]
      rw [e1]
      have t3 : (x.sh == 0#8) = true := by simpa using hs
      clear e1 h hs
      rcases h2 with t0 | ⟨t0, t1⟩
      all_goals
        go_enter Tryz.func148, Tryz.ntmps148
        try dsimp only [List.append]
        go_wp2_with fail
        refine gen_calls3 (w := w) (b1 := w.heap.size) (x1 := .cells (ec (x)) 129 (0, 0)) (b2 := w.heap.size + 1) (x2 := .cells (msc m) 50 (0, 0)) (b3 := w.heap.size + 2) (x3 := .cells (ec (enZ)) 129 (0, 0)) (by (repeat' (first | exact Chg.refl _ _ | assumption | exact Chg.refl [] _ | refine Chg.drew ?_ | refine Chg.drewN ?_ _ | refine Chg.alloc ?_ _ | refine Chg.putRow ?_ _ _ _ (.inr (by first | exact Nat.le_refl _ | omega | simp)) | refine Chg.setCell ?_ _ _ _ (.inr (by first | exact Nat.le_refl _ | omega | simp)) ))) (by simp [*]) (by simp [*]) (by simp [*]) fun w1 C1 rE rM rR => ?_
        have oE := old rE
        have oM := old rM
        have oR := old rR
        have o0 := h0.chg C1
        refine (downed_any x c 9 m.li _ o0).mono ?_
        rintro e w2 ⟨A2, n2, rfl, hs2, hA3, c2⟩
        have rR2 := c2.keep rR (by simp)
        have oR2 := old rR2
        go_wp2_with fail
        refine bodyPost_ret (v := .tuple #[.agg (ec ((ownedE x c 9 m.li).1)), .slice A2 (ownedE x c 9 m.li).2.length n2]) ?_ (by rfl) ?_
        · exact results_en2 (by rfl) _ _ (w.heap.size + 2) _ (0, 0) (by rfl) (by first | exact rR2 | (simp [rR2]; done)) _ (by rfl)
        refine ⟨A2, n2, rfl, ?_, fun a ha => Nat.le_trans C1.size (hA3 a ha), by (repeat' (first | exact Chg.refl _ _ | assumption | exact Chg.refl [] _ | refine Chg.drew ?_ | refine Chg.drewN ?_ _ | refine Chg.alloc ?_ _ | refine Chg.putRow ?_ _ _ _ (.inr (by first | exact Nat.le_refl _ | omega | simp)) | refine Chg.setCell ?_ _ _ _ (.inr (by first | exact Nat.le_refl _ | omega | simp))  | refine Chg.trans ?_ c2))⟩
        exact hs2.chg ((Chg.refl [w.heap.size + 2] _).putRow _ _ _ (.inl (by simp))) (by intro a ha; have := hA3 a ha; have := oR.lt; simp; omega)

    · have e1 : getSE x c m = sharedE x c m.li := by unfold getSE; rw [if_neg h, if_neg hs]
      rw [e1]
      have t3 : (x.sh == 0#8) = false := by simpa using hs
      clear e1 h hs
      rcases h2 with t0 | ⟨t0, t1⟩
      all_goals
        go_enter Tryz.func148, Tryz.ntmps148
        try dsimp only [List.append]
        go_wp2_with fail
        refine gen_calls3 (w := w) (b1 := w.heap.size) (x1 := .cells (ec (x)) 129 (0, 0)) (b2 := w.heap.size + 1) (x2 := .cells (msc m) 50 (0, 0)) (b3 := w.heap.size + 2) (x3 := .cells (ec (enZ)) 129 (0, 0)) (by (repeat' (first | exact Chg.refl _ _ | assumption | exact Chg.refl [] _ | refine Chg.drew ?_ | refine Chg.drewN ?_ _ | refine Chg.alloc ?_ _ | refine Chg.putRow ?_ _ _ _ (.inr (by first | exact Nat.le_refl _ | omega | simp)) | refine Chg.setCell ?_ _ _ _ (.inr (by first | exact Nat.le_refl _ | omega | simp)) ))) (by simp [*]) (by simp [*]) (by simp [*]) fun w1 C1 rE rM rR => ?_
        have oE := old rE
        have oM := old rM
        have oR := old rR
        have o0 := h0.chg C1
        refine (dshared_any x c m.li _ o0).mono ?_
        rintro e w2 ⟨A2, n2, rfl, hs2, hA3, c2⟩
        have rR2 := c2.keep rR (by simp)
        have oR2 := old rR2
        go_wp2_with fail
        refine bodyPost_ret (v := .tuple #[.agg (ec ((sharedE x c m.li).1)), .slice A2 (sharedE x c m.li).2.length n2]) ?_ (by rfl) ?_
        · exact results_en2 (by rfl) _ _ (w.heap.size + 2) _ (0, 0) (by rfl) (by first | exact rR2 | (simp [rR2]; done)) _ (by rfl)
        refine ⟨A2, n2, rfl, ?_, fun a ha => Nat.le_trans C1.size (hA3 a ha), by (repeat' (first | exact Chg.refl _ _ | assumption | exact Chg.refl [] _ | refine Chg.drew ?_ | refine Chg.drewN ?_ _ | refine Chg.alloc ?_ _ | refine Chg.putRow ?_ _ _ _ (.inr (by first | exact Nat.le_refl _ | omega | simp)) | refine Chg.setCell ?_ _ _ _ (.inr (by first | exact Nat.le_refl _ | omega | simp))  | refine Chg.trans ?_ c2))⟩
        exact hs2.chg ((Chg.refl [w.heap.size + 2] _).putRow _ _ _ (.inl (by simp))) (by intro a ha; have := hA3 a ha; have := oR.lt; simp; omega)


theorem dclean_any (x : En) (c : Int) (m : Ms) (w : World) (h0 : Old w 0) : Calls Tryz.prog 151 #[.agg (ec x), .int .i64 c, .agg (msc m)] w (EnSds w (cleanE x c m)) := by
  rw [show cleanE x c m = waitE x c m (bitM x.ow) 13 from rfl]
  go_enter Tryz.func151, Tryz.ntmps151
  try dsimp only [List.append]
  go_wp2_with fail
  refine gen_world3 (w := w) (b1 := w.heap.size) (x1 := .cells (ec (x)) 129 (0, 0)) (b2 := w.heap.size + 1) (x2 := .cells (msc m) 50 (0, 0)) (b3 := w.heap.size + 2) (x3 := .cells (ec (enZ)) 129 (0, 0)) (by (repeat' (first | exact Chg.refl _ _ | assumption | exact Chg.refl [] _ | refine Chg.drew ?_ | refine Chg.drewN ?_ _ | refine Chg.alloc ?_ _ | refine Chg.putRow ?_ _ _ _ (.inr (by first | exact Nat.le_refl _ | omega | simp)) | refine Chg.setCell ?_ _ _ _ (.inr (by first | exact Nat.le_refl _ | omega | simp)) ))) (by simp [*]) (by simp [*]) (by simp [*]) fun w1 C1 rE rM rR => ?_
  have oE := old rE
  have oM := old rM
  have oR := old rR
  have o0 := h0.chg C1
  go_region_held3 (fun w' => w'.heap[w.heap.size]? = some (.cells (ec (x)) 129 (0, 0)) ∧ w'.heap[w.heap.size + 1]? = some (.cells (msc m) 50 (0, 0))) (first | exact ⟨rE, rM⟩ | exact ⟨c2.keep rE (by simp), c2.keep rM (by simp)⟩ | exact ⟨c2.keep (by simp [*]) (by simp), c2.keep (by simp [*]) (by simp)⟩ | simp [*])
    (first
      | (go_at_call 116; refine (gbit_any _ _).mono ?_; rintro e w' ⟨rfl, rfl⟩)
      | (go_at_call 181; refine (dwait_any _ _ _ _ _ _ ?_).mono ?_; exact (by first | exact o0 | exact o0.chg C1 | (show (0 : Nat) < _; simpa using o0.lt)); rintro e w' ⟨A2, n2, rfl, hs2, hA2, c2⟩; (have hA3 : ∀ a, A2 = some a → w1.heap.size ≤ a.block := (by simpa using hA2)); (first | (have rR2 := c2.keep rR (by simp)) | (have rR2 := c2.keep (x := .cells (ec (x)) 129 (0, 0)) (k := w.heap.size + 2) (by simp [rR]) (by simp)))))
  all_goals
    go_wp2_with fail
    refine bodyPost_ret (v := .tuple #[.agg (ec ((waitE x c m (bitM x.ow) 13).1)), .slice A2 (waitE x c m (bitM x.ow) 13).2.length n2]) ?_ (by rfl) ?_
    · exact results_en2 (by rfl) _ _ (w.heap.size + 2) _ (0, 0) (by rfl) (by first | exact rR2 | (simp [rR2]; done)) _ (by rfl)
    refine ⟨A2, n2, rfl, ?_, fun a ha => Nat.le_trans C1.size (hA3 a ha), by (repeat' (first | exact Chg.refl _ _ | assumption | exact Chg.refl [] _ | refine Chg.drew ?_ | refine Chg.drewN ?_ _ | refine Chg.alloc ?_ _ | refine Chg.putRow ?_ _ _ _ (.inr (by first | exact Nat.le_refl _ | omega | simp)) | refine Chg.setCell ?_ _ _ _ (.inr (by first | exact Nat.le_refl _ | omega | simp))  | refine Chg.trans ?_ c2))⟩
    first
      | exact hs2
      | exact hs2.chg ((Chg.refl [w.heap.size + 2] _).putRow _ _ _ (.inl (by simp))) (by intro a ha; have := hA3 a ha; have := oR.lt; simp; omega)
      | exact hs2.chg c3 (by simp)
      | exact (hs2.chg c3 (by simp)).chg ((Chg.refl [w.heap.size + 2] _).putRow _ _ _ (.inl (by simp))) (by intro a ha; have := hA3 a ha; have := oR.lt; simp; omega)

theorem dwipe_any (x : En) (c : Int) (m : Ms) (w : World) (h0 : Old w 0) : Calls Tryz.prog 152 #[.agg (ec x), .int .i64 c, .agg (msc m)] w (EnSds w (wipeE x c m)) := by
  rw [show wipeE x c m = waitE x c m (holders x) 12 from rfl]
  go_enter Tryz.func152, Tryz.ntmps152
  try dsimp only [List.append]
  go_wp2_with fail
  refine gen_world3 (w := w) (b1 := w.heap.size) (x1 := .cells (ec (x)) 129 (0, 0)) (b2 := w.heap.size + 1) (x2 := .cells (msc m) 50 (0, 0)) (b3 := w.heap.size + 2) (x3 := .cells (ec (enZ)) 129 (0, 0)) (by (repeat' (first | exact Chg.refl _ _ | assumption | exact Chg.refl [] _ | refine Chg.drew ?_ | refine Chg.drewN ?_ _ | refine Chg.alloc ?_ _ | refine Chg.putRow ?_ _ _ _ (.inr (by first | exact Nat.le_refl _ | omega | simp)) | refine Chg.setCell ?_ _ _ _ (.inr (by first | exact Nat.le_refl _ | omega | simp)) ))) (by simp [*]) (by simp [*]) (by simp [*]) fun w1 C1 rE rM rR => ?_
  have oE := old rE
  have oM := old rM
  have oR := old rR
  have o0 := h0.chg C1
  go_region_held3 (fun w' => w'.heap[w.heap.size]? = some (.cells (ec (x)) 129 (0, 0)) ∧ w'.heap[w.heap.size + 1]? = some (.cells (msc m) 50 (0, 0))) (first | exact ⟨rE, rM⟩ | exact ⟨c2.keep rE (by simp), c2.keep rM (by simp)⟩ | exact ⟨c3.keep rE (by simp), c3.keep rM (by simp)⟩ | exact ⟨c2.keep (by simp [*]) (by simp), c2.keep (by simp [*]) (by simp)⟩ | exact ⟨c3.keep (by simp [*]) (by simp), c3.keep (by simp [*]) (by simp)⟩ | simp [*])
    (first
      | (go_at_call 182; refine (dholders_any _ _).mono ?_; rintro e w' ⟨rfl, c3⟩; (have rR3 := c3.keep rR (by simp)); (have o3 := Old.chg (b := 0) (by first | exact o0 | exact o0.chg C1 | (show (0 : Nat) < _; simpa using o0.lt)) c3); (have z3 := c3.size))
      | (go_at_call 181; refine (dwait_any _ _ _ _ _ _ ?_).mono ?_; exact o3; rintro e w' ⟨A2, n2, rfl, hs2, hA2, c2⟩; (have hA3 : ∀ a, A2 = some a → w1.heap.size ≤ a.block := (fun a ha => Nat.le_trans z3 (hA2 a ha))); have rR2 := c2.keep rR3 (by simp)))
  all_goals
    go_wp2_with fail
    refine bodyPost_ret (v := .tuple #[.agg (ec ((waitE x c m (holders x) 12).1)), .slice A2 (waitE x c m (holders x) 12).2.length n2]) ?_ (by rfl) ?_
    · exact results_en2 (by rfl) _ _ (w.heap.size + 2) _ (0, 0) (by rfl) (by first | exact rR2 | (simp [rR2]; done)) _ (by rfl)
    refine ⟨A2, n2, rfl, ?_, fun a ha => Nat.le_trans C1.size (hA3 a ha), by (repeat' (first | exact Chg.refl _ _ | assumption | exact Chg.refl [] _ | refine Chg.drew ?_ | refine Chg.drewN ?_ _ | refine Chg.alloc ?_ _ | refine Chg.putRow ?_ _ _ _ (.inr (by first | exact Nat.le_refl _ | omega | simp)) | refine Chg.setCell ?_ _ _ _ (.inr (by first | exact Nat.le_refl _ | omega | simp))  | refine Chg.trans ?_ c2 | refine Chg.trans ?_ c3))⟩
    first
      | exact hs2
      | exact hs2.chg ((Chg.refl [w.heap.size + 2] _).putRow _ _ _ (.inl (by simp))) (by intro a ha; have := hA3 a ha; have := oR.lt; simp; omega)
      | exact hs2.chg c3 (by simp)
      | exact (hs2.chg c3 (by simp)).chg ((Chg.refl [w.heap.size + 2] _).putRow _ _ _ (.inl (by simp))) (by intro a ha; have := hA3 a ha; have := oR.lt; simp; omega)


theorem dgetM_any (x : En) (c : Int) (m : Ms) (w : World) (h0 : Old w 0) : Calls Tryz.prog 149 #[.agg (ec x), .int .i64 c, .agg (msc m)] w (EnSds w (getME x c m)) := by
  by_cases h : (holders x &&& ~~~(bitM c)) = 0#8
  · have e1 : getME x c m = ownedE x c 10 m.li := by unfold getME; rw [if_pos h]
    have t1 : ((holders x &&& ~~~(bitM c)) == 0#8) = true := by simpa using h
    rw [e1]
    clear e1 h
    go_enter Tryz.func149, Tryz.ntmps149
    try dsimp only [List.append]
    go_wp2_with fail
    refine gen_calls3 (w := w) (b1 := w.heap.size) (x1 := .cells (ec (x)) 129 (0, 0)) (b2 := w.heap.size + 1) (x2 := .cells (msc m) 50 (0, 0)) (b3 := w.heap.size + 2) (x3 := .cells (ec (enZ)) 129 (0, 0)) (by (repeat' (first | exact Chg.refl _ _ | assumption | exact Chg.refl [] _ | refine Chg.drew ?_ | refine Chg.drewN ?_ _ | refine Chg.alloc ?_ _ | refine Chg.putRow ?_ _ _ _ (.inr (by first | exact Nat.le_refl _ | omega | simp)) | refine Chg.setCell ?_ _ _ _ (.inr (by first | exact Nat.le_refl _ | omega | simp)) ))) (by simp [*]) (by simp [*]) (by simp [*]) fun w1 C1 rE rM rR => ?_
    have oE := old rE
    have oM := old rM
    have oR := old rR
    have o0 := h0.chg C1
    refine (dholders_any x w1).mono ?_
    rintro e w3 ⟨rfl, c3⟩
    have rE3 := c3.keep rE (by simp)
    have rM3 := c3.keep rM (by simp)
    have rR3 := c3.keep rR (by simp)
    have C3 := C1.trans c3
    have o3 := h0.chg C3
    clear rE rM rR oE oM oR o0 C1 c3
    have oE3 := old rE3
    have oM3 := old rM3
    have oR3 := old rR3
    go_wp2_with (go_at_call 116; refine (gbit_any _ _).mono ?_; rintro e w' ⟨rfl, rfl⟩)
    refine (downed_any x c 10 m.li _ (by exact o3)).mono ?_
    rintro e w2 ⟨A2, n2, rfl, hs2, hA3, c2⟩
    have rR2 := c2.keep rR3 (by simp)
    have oR2 := old rR2
    go_wp2_with fail
    refine bodyPost_ret (v := .tuple #[.agg (ec ((ownedE x c 10 m.li).1)), .slice A2 (ownedE x c 10 m.li).2.length n2]) ?_ (by rfl) ?_
    · exact results_en2 (by rfl) _ _ (w.heap.size + 2) _ (0, 0) (by rfl) (by simp [rR2]; done) _ (by rfl)
    refine ⟨A2, n2, rfl, ?_, fun a ha => Nat.le_trans C3.size (hA3 a ha), by (repeat' (first | exact Chg.refl _ _ | assumption | exact Chg.refl [] _ | refine Chg.drew ?_ | refine Chg.drewN ?_ _ | refine Chg.alloc ?_ _ | refine Chg.putRow ?_ _ _ _ (.inr (by first | exact Nat.le_refl _ | omega | simp)) | refine Chg.setCell ?_ _ _ _ (.inr (by first | exact Nat.le_refl _ | omega | simp))  | refine Chg.trans ?_ c2))⟩
    exact hs2.chg ((Chg.refl [w.heap.size + 2] _).putRow _ _ _ (.inl (by simp))) (by intro a ha; have := hA3 a ha; have := oR3.lt; simp; omega)
  · have e1 : getME x c m = waitE x c m (holders x &&& ~~~(bitM c)) 12 := by unfold getME; rw [if_neg h]
    have t1 : ((holders x &&& ~~~(bitM c)) == 0#8) = false := by simpa using h
    rw [e1]
    clear e1 h
    go_enter Tryz.func149, Tryz.ntmps149
    try dsimp only [List.append]
    go_wp2_with fail
    refine gen_calls3 (w := w) (b1 := w.heap.size) (x1 := .cells (ec (x)) 129 (0, 0)) (b2 := w.heap.size + 1) (x2 := .cells (msc m) 50 (0, 0)) (b3 := w.heap.size + 2) (x3 := .cells (ec (enZ)) 129 (0, 0)) (by (repeat' (first | exact Chg.refl _ _ | assumption | exact Chg.refl [] _ | refine Chg.drew ?_ | refine Chg.drewN ?_ _ | refine Chg.alloc ?_ _ | refine Chg.putRow ?_ _ _ _ (.inr (by first | exact Nat.le_refl _ | omega | simp)) | refine Chg.setCell ?_ _ _ _ (.inr (by first | exact Nat.le_refl _ | omega | simp)) ))) (by simp [*]) (by simp [*]) (by simp [*]) fun w1 C1 rE rM rR => ?_
    have oE := old rE
    have oM := old rM
    have oR := old rR
    have o0 := h0.chg C1
    refine (dholders_any x w1).mono ?_
    rintro e w3 ⟨rfl, c3⟩
    have rE3 := c3.keep rE (by simp)
    have rM3 := c3.keep rM (by simp)
    have rR3 := c3.keep rR (by simp)
    have C3 := C1.trans c3
    have o3 := h0.chg C3
    clear rE rM rR oE oM oR o0 C1 c3
    have oE3 := old rE3
    have oM3 := old rM3
    have oR3 := old rR3
    go_wp2_with (go_at_call 116; refine (gbit_any _ _).mono ?_; rintro e w' ⟨rfl, rfl⟩)
    refine (dwait_any x c m (holders x &&& ~~~(bitM c)) 12 _ (by exact o3)).mono ?_
    rintro e w2 ⟨A2, n2, rfl, hs2, hA3, c2⟩
    have rR2 := c2.keep rR3 (by simp)
    have oR2 := old rR2
    go_wp2_with fail
    refine bodyPost_ret (v := .tuple #[.agg (ec ((waitE x c m (holders x &&& ~~~(bitM c)) 12).1)), .slice A2 (waitE x c m (holders x &&& ~~~(bitM c)) 12).2.length n2]) ?_ (by rfl) ?_
    · exact results_en2 (by rfl) _ _ (w.heap.size + 2) _ (0, 0) (by rfl) (by simp [rR2]; done) _ (by rfl)
    refine ⟨A2, n2, rfl, ?_, fun a ha => Nat.le_trans C3.size (hA3 a ha), by (repeat' (first | exact Chg.refl _ _ | assumption | exact Chg.refl [] _ | refine Chg.drew ?_ | refine Chg.drewN ?_ _ | refine Chg.alloc ?_ _ | refine Chg.putRow ?_ _ _ _ (.inr (by first | exact Nat.le_refl _ | omega | simp)) | refine Chg.setCell ?_ _ _ _ (.inr (by first | exact Nat.le_refl _ | omega | simp))  | refine Chg.trans ?_ c2))⟩
    exact hs2.chg ((Chg.refl [w.heap.size + 2] _).putRow _ _ _ (.inl (by simp))) (by intro a ha; have := hA3 a ha; have := oR3.lt; simp; omega)


theorem dput_any (x : En) (c : Int) (m : Ms) (w : World) (h0 : Old w 0) : Calls Tryz.prog 150 #[.agg (ec x), .int .i64 c, .agg (msc m)] w (EnSds w (putE x c m)) := by
  by_cases h : x.ow = c
  · have e1 : putE x c m = (withoutE (writtenE x m) c, tellL (bitM c) (ms4 11 m.li false false)) := by unfold putE; rw [if_pos h]
    have t1 : (x.ow == c) = true := by simpa using h
    rw [e1]
    clear e1 h
    go_enter Tryz.func150, Tryz.ntmps150
    try dsimp only [List.append]
    go_wp2_with fail
    refine gen_calls3 (w := w) (b1 := w.heap.size) (x1 := .cells (ec (x)) 129 (0, 0)) (b2 := w.heap.size + 1) (x2 := .cells (msc m) 50 (0, 0)) (b3 := w.heap.size + 2) (x3 := .cells (ec (enZ)) 129 (0, 0)) (by (repeat' (first | exact Chg.refl _ _ | assumption | exact Chg.refl [] _ | refine Chg.drew ?_ | refine Chg.drewN ?_ _ | refine Chg.alloc ?_ _ | refine Chg.putRow ?_ _ _ _ (.inr (by first | exact Nat.le_refl _ | omega | simp)) | refine Chg.setCell ?_ _ _ _ (.inr (by first | exact Nat.le_refl _ | omega | simp)) ))) (by simp [*]) (by simp [*]) (by simp [*]) fun w1 C1 rE rM rR => ?_
    have oE := old rE
    have oM := old rM
    have oR := old rR
    refine (dwritten_any x m w1).mono ?_
    rintro e w3 ⟨rfl, c3⟩
    have rE3 := c3.keep rE (by simp)
    have rM3 := c3.keep rM (by simp)
    have rR3 := c3.keep rR (by simp)
    have C3 := C1.trans c3
    clear rE rM rR oE oM oR C1 c3
    go_wp2_with fail
    refine gen_world3 (w := w) (b1 := w.heap.size) (x1 := .cells (ec (writtenE x m)) 129 (0, 0)) (b2 := w.heap.size + 1) (x2 := .cells (msc m) 50 (0, 0)) (b3 := w.heap.size + 2) (x3 := .cells (ec (enZ)) 129 (0, 0)) (by (repeat' (first | exact Chg.refl _ _ | assumption | exact Chg.refl [] _ | refine Chg.drew ?_ | refine Chg.drewN ?_ _ | refine Chg.alloc ?_ _ | refine Chg.putRow ?_ _ _ _ (.inr (by first | exact Nat.le_refl _ | omega | simp)) | refine Chg.setCell ?_ _ _ _ (.inr (by first | exact Nat.le_refl _ | omega | simp)) ))) (by simp [*]) (by simp [*]) (by simp [*]) fun w1 C1 rE rM rR => ?_
    have oE := old rE
    have oM := old rM
    have oR := old rR
    have o0 := h0.chg C1
    go_region_held3 (fun w' => w'.heap[w.heap.size]? = some (.cells (ec (writtenE x m)) 129 (0, 0)) ∧ w'.heap[w.heap.size + 1]? = some (.cells (msc m) 50 (0, 0))) (first | exact ⟨rE, rM⟩ | exact ⟨c2.keep rE (by simp), c2.keep rM (by simp)⟩ | exact ⟨c3.keep rE (by simp), c3.keep rM (by simp)⟩ | exact ⟨c2.keep (by simp [*]) (by simp), c2.keep (by simp [*]) (by simp)⟩ | exact ⟨c3.keep (by simp [*]) (by simp), c3.keep (by simp [*]) (by simp)⟩ | simp [*])
      (first
        | (go_at_call 116; refine (gbit_any _ _).mono ?_; rintro e w' ⟨rfl, rfl⟩)
        | (go_at_call 160; refine (dwithout_any _ _ _).mono ?_; rintro e w' ⟨rfl, c3⟩; (first | (have rR3 := c3.keep rR (by simp)) | (have rR3 := c3.keep rR2 (by simp))))
        | (go_at_call 115; refine (dtell4_any _ _ _ _ _ _ (by first | exact o0 | exact Old.chg (b := 0) (by exact o0) c3 | exact Old.chg (b := 0) o0 c3 | (show (0 : Nat) < _; have := o0.lt; have := c3.size; simp at *; omega))).mono ?_; rintro e w' ⟨A2, n2, rfl, hs2, hA2, c2⟩; (have hA3 : ∀ a, A2 = some a → w1.heap.size ≤ a.block := (by first | exact hA2 | exact (fun a ha => Nat.le_trans c3.size (hA2 a ha)) | (intro a ha; have := hA2 a ha; have := c3.size; simp at *; omega))); (first | (have rR2 := c2.keep rR (by simp)) | (have rR2 := c2.keep rR3 (by simp)) | (have rR2 := c2.keep (x := .cells (ec (withoutE (writtenE x m) c)) 129 (0, 0)) (k := w.heap.size + 2) (by simp [rR3]) (by simp)))))
    all_goals
      go_wp2_with fail
      refine bodyPost_ret (v := .tuple #[.agg (ec (withoutE (writtenE x m) c)), .slice A2 (tellL (bitM c) (ms4 11 m.li false false)).length n2]) ?_ (by rfl) ?_
      · exact results_en2 (by rfl) _ _ (w.heap.size + 2) _ (0, 0) (by rfl) (by first | exact rR2 | (simp [rR2]; done) | (simp [rR3]; done)) _ (by rfl)
      refine ⟨A2, n2, rfl, ?_, fun a ha => Nat.le_trans C1.size (hA3 a ha), by (repeat' (first | exact Chg.refl _ _ | assumption | exact Chg.refl [] _ | refine Chg.drew ?_ | refine Chg.drewN ?_ _ | refine Chg.alloc ?_ _ | refine Chg.putRow ?_ _ _ _ (.inr (by first | exact Nat.le_refl _ | omega | simp)) | refine Chg.setCell ?_ _ _ _ (.inr (by first | exact Nat.le_refl _ | omega | simp))  | refine Chg.trans ?_ c2 | refine Chg.trans ?_ c3))⟩
      first
        | exact hs2
        | exact hs2.chg ((Chg.refl [w.heap.size + 2] _).putRow _ _ _ (.inl (by simp))) (by intro a ha; have := hA3 a ha; have := oR.lt; simp; omega)
        | exact hs2.chg c3 (by simp)
        | exact (hs2.chg c3 (by simp)).chg ((Chg.refl [w.heap.size + 2] _).putRow _ _ _ (.inl (by simp))) (by intro a ha; have := hA3 a ha; have := oR.lt; simp; omega)
  · have e1 : putE x c m = (withoutE x c, tellL (bitM c) (ms4 11 m.li false false)) := by unfold putE; rw [if_neg h]
    have t1 : (x.ow == c) = false := by simpa using h
    rw [e1]
    clear e1 h
    go_enter Tryz.func150, Tryz.ntmps150
    try dsimp only [List.append]
    go_wp2_with fail
    refine gen_world3 (w := w) (b1 := w.heap.size) (x1 := .cells (ec (x)) 129 (0, 0)) (b2 := w.heap.size + 1) (x2 := .cells (msc m) 50 (0, 0)) (b3 := w.heap.size + 2) (x3 := .cells (ec (enZ)) 129 (0, 0)) (by (repeat' (first | exact Chg.refl _ _ | assumption | exact Chg.refl [] _ | refine Chg.drew ?_ | refine Chg.drewN ?_ _ | refine Chg.alloc ?_ _ | refine Chg.putRow ?_ _ _ _ (.inr (by first | exact Nat.le_refl _ | omega | simp)) | refine Chg.setCell ?_ _ _ _ (.inr (by first | exact Nat.le_refl _ | omega | simp)) ))) (by simp [*]) (by simp [*]) (by simp [*]) fun w1 C1 rE rM rR => ?_
    have oE := old rE
    have oM := old rM
    have oR := old rR
    have o0 := h0.chg C1
    go_region_held3 (fun w' => w'.heap[w.heap.size]? = some (.cells (ec (x)) 129 (0, 0)) ∧ w'.heap[w.heap.size + 1]? = some (.cells (msc m) 50 (0, 0))) (first | exact ⟨rE, rM⟩ | exact ⟨c2.keep rE (by simp), c2.keep rM (by simp)⟩ | exact ⟨c3.keep rE (by simp), c3.keep rM (by simp)⟩ | exact ⟨c2.keep (by simp [*]) (by simp), c2.keep (by simp [*]) (by simp)⟩ | exact ⟨c3.keep (by simp [*]) (by simp), c3.keep (by simp [*]) (by simp)⟩ | simp [*])
      (first
        | (go_at_call 116; refine (gbit_any _ _).mono ?_; rintro e w' ⟨rfl, rfl⟩)
        | (go_at_call 160; refine (dwithout_any _ _ _).mono ?_; rintro e w' ⟨rfl, c3⟩; (first | (have rR3 := c3.keep rR (by simp)) | (have rR3 := c3.keep rR2 (by simp))))
        | (go_at_call 115; refine (dtell4_any _ _ _ _ _ _ (by first | exact o0 | exact Old.chg (b := 0) (by exact o0) c3 | exact Old.chg (b := 0) o0 c3 | (show (0 : Nat) < _; have := o0.lt; have := c3.size; simp at *; omega))).mono ?_; rintro e w' ⟨A2, n2, rfl, hs2, hA2, c2⟩; (have hA3 : ∀ a, A2 = some a → w1.heap.size ≤ a.block := (by first | exact hA2 | exact (fun a ha => Nat.le_trans c3.size (hA2 a ha)) | (intro a ha; have := hA2 a ha; have := c3.size; simp at *; omega))); (first | (have rR2 := c2.keep rR (by simp)) | (have rR2 := c2.keep rR3 (by simp)) | (have rR2 := c2.keep (x := .cells (ec (withoutE (x) c)) 129 (0, 0)) (k := w.heap.size + 2) (by simp [rR3]) (by simp)))))
    all_goals
      go_wp2_with fail
      refine bodyPost_ret (v := .tuple #[.agg (ec (withoutE (x) c)), .slice A2 (tellL (bitM c) (ms4 11 m.li false false)).length n2]) ?_ (by rfl) ?_
      · exact results_en2 (by rfl) _ _ (w.heap.size + 2) _ (0, 0) (by rfl) (by first | exact rR2 | (simp [rR2]; done) | (simp [rR3]; done)) _ (by rfl)
      refine ⟨A2, n2, rfl, ?_, fun a ha => Nat.le_trans C1.size (hA3 a ha), by (repeat' (first | exact Chg.refl _ _ | assumption | exact Chg.refl [] _ | refine Chg.drew ?_ | refine Chg.drewN ?_ _ | refine Chg.alloc ?_ _ | refine Chg.putRow ?_ _ _ _ (.inr (by first | exact Nat.le_refl _ | omega | simp)) | refine Chg.setCell ?_ _ _ _ (.inr (by first | exact Nat.le_refl _ | omega | simp))  | refine Chg.trans ?_ c2 | refine Chg.trans ?_ c3))⟩
      first
        | exact hs2
        | exact hs2.chg ((Chg.refl [w.heap.size + 2] _).putRow _ _ _ (.inl (by simp))) (by intro a ha; have := hA3 a ha; have := oR.lt; simp; omega)
        | exact hs2.chg c3 (by simp)
        | exact (hs2.chg c3 (by simp)).chg ((Chg.refl [w.heap.size + 2] _).putRow _ _ _ (.inl (by simp))) (by intro a ha; have := hA3 a ha; have := oR.lt; simp; omega)
end Go.Proofs.YtcjoinhngdfdmaaGreatDoor
end
