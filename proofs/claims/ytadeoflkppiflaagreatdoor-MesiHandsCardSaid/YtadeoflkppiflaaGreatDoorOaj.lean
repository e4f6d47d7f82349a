/- Texts of the walk, one behind the other: Dird Dire. No condition. -/
import Derived.Test.YtadeoflkppiflaaGreatDoorOab
import Derived.Test.YtadeoflkppiflaaGreatDoorOai
import Derived.BigQuiet
import Derived.Deep.QuietTactic
import Derived.Deep.RegionHeld3
import Derived.Deep.RegionWith
section
namespace Go.Proofs.YtadeoflkppiflaaGreatDoor
open Go.RowKit
set_option linter.unusedVariables false
set_option maxHeartbeats 1000000
set_option maxRecDepth 100000
attribute [local go_sem ↓] append_appS copy_copS clear_clrS make_mkS slice_slS cell_row frozen_row loadLine storeLine loadMsg storeMsg heap_drew heap_drewN heap_alloc heap_past heap_setCell heap_putRow vs_get msc_kd msc_li msc_di msc_ke
attribute [local go_sem] rowCell_some rowFrozen_some rowHas_some rowIn_some rowPart_full rowPart_lit rowPut_full rowPut_lit rowSet_some size_putRow vs_size vs_one wideLine wideMsg run_loadS run_storeS run_appS run_copS run_clrS run_mkS run_slS loadW_at storeW_at fit_all fit_le one_int one_bool one_pointer one_slice allOne_list putRow_new ne_size1 ne_size2 ne_size3 ne_size4 zero8_length line_eq lit8 msc_size msc_one msc_part msc_in fold_msc
attribute [local simp ↓] heap_drew heap_drewN heap_alloc heap_past heap_setCell heap_putRow
attribute [local simp] rowCell_some rowFrozen_some rowHas_some rowIn_some rowPart_full rowPart_lit rowPut_full rowPut_lit rowSet_some size_putRow vs_size fit_all putRow_new ne_size1 ne_size2 ne_size3 ne_size4 zero8_length msc_size
attribute [local go_sem ↓] ec_he ec_di ec_ow ec_sh ec_bu ec_by ec_wa sc_to
attribute [local go_sem] mi_and mi_or mi_not mi_beq0 mi_bne0 ec_size ec_one ec_part ec_in ec_has ec_setDi ec_setOw ec_setSh ec_setBu ec_setBy ec_setWa ec_setSh0 ec_setWa0 ec_putM sc_size sc_one sc_part sc_in
attribute [local simp] ec_size sc_size ec_setDi ec_setOw ec_setSh ec_setBu ec_setBy ec_setWa ec_setSh0 ec_setWa0 ec_putM
attribute [local go_sem ↓] loadEn storeEn loadSd storeSd en_z0
attribute [local go_sem] wideEn wideSd fold_sc size11 putRow_newB putRow_newC ms5_lit
attribute [local simp] en_z0 putRow_newB putRow_newC fit_le ec_has


theorem dgetS_any (x : En) (c : Int) (m : Ms) (w : World) (h0 : Old w 0) : Calls Tryz.prog 205 #[.agg (ec x), .int .i64 c, .agg (msc m)] w (EnSds w (getSE x c m)) := by
  by_cases h : x.ow ≠ -1 ∧ x.ow ≠ c
  · have e1 : getSE x c m = waitE x c m (bitM x.ow) 13 := by unfold getSE; rw [if_pos h]
    rw [e1]
    have t0 : (x.ow != -1) = true := by simpa using h.1
    have t1 : (x.ow != c) = true := by simpa using h.2
    clear e1 h
    go_enter Tryz.func205, Tryz.ntmps205
    try dsimp only [List.append]
    go_wp2_with fail
    refine gen_world3 (w := w) (b1 := w.heap.size) (x1 := .cells (ec (x)) 56 (0, 0)) (b2 := w.heap.size + 1) (x2 := .cells (msc m) 38 (0, 0)) (b3 := w.heap.size + 2) (x3 := .cells (ec (enZ)) 56 (0, 0)) (by (repeat' (first | exact Chg.refl _ _ | assumption | exact Chg.refl [] _ | refine Chg.drew ?_ | refine Chg.drewN ?_ _ | refine Chg.alloc ?_ _ | refine Chg.putRow ?_ _ _ _ (.inr (by first | exact Nat.le_refl _ | omega | simp)) | refine Chg.setCell ?_ _ _ _ (.inr (by first | exact Nat.le_refl _ | omega | simp)) ))) (by simp [*]) (by simp [*]) (by simp [*]) fun w1 C1 rE rM rR => ?_
    have oE := old rE
    have oM := old rM
    have oR := old rR
    have o0 := h0.chg C1
    go_region_held3 (fun w' => w'.heap[w.heap.size]? = some (.cells (ec (x)) 56 (0, 0)) ∧ w'.heap[w.heap.size + 1]? = some (.cells (msc m) 38 (0, 0))) (first | exact ⟨rE, rM⟩ | exact ⟨c2.keep rE (by simp), c2.keep rM (by simp)⟩ | exact ⟨c2.keep (by simp [*]) (by simp), c2.keep (by simp [*]) (by simp)⟩ | simp [*])
      (first
        | (go_at_call 164; refine (gbit_any _ _).mono ?_; rintro e w' ⟨rfl, rfl⟩)
        | (go_at_call 227; refine (dwait_any _ _ _ _ _ _ ?_).mono ?_; exact (by first | exact o0 | exact o0.chg C1 | (show (0 : Nat) < _; simpa using o0.lt)); rintro e w' ⟨A2, n2, rfl, hs2, hA2, c2⟩; (have hA3 : ∀ a, A2 = some a → w1.heap.size ≤ a.block := (by simpa using hA2)); (first | (have rR2 := c2.keep rR (by simp)) | (have rR2 := c2.keep (x := .cells (ec (x)) 56 (0, 0)) (k := w.heap.size + 2) (by simp [rR]) (by simp)))))
    all_goals
      go_wp2_with fail
      refine bodyPost_ret (v := .tuple #[.agg (ec ((waitE x c m (bitM x.ow) 13).1)), .slice A2 (waitE x c m (bitM x.ow) 13).2.length n2]) ?_ (by rfl) ?_
      · exact results_en2 (by rfl) _ _ (w.heap.size + 2) _ (0, 0) (by rfl) (by first | exact rR2 | (simp [rR2]; done)) _ (by rfl)
      refine ⟨A2, n2, rfl, ?_, fun a ha => Nat.le_trans C1.size (hA3 a ha), by (repeat' (first | exact Chg.refl _ _ | assumption | exact Chg.refl [] _ | refine Chg.drew ?_ | refine Chg.drewN ?_ _ | refine Chg.alloc ?_ _ | refine Chg.putRow ?_ _ _ _ (.inr (by first | exact Nat.le_refl _ | omega | simp)) | refine Chg.setCell ?_ _ _ _ (.inr (by first | exact Nat.le_refl _ | omega | simp))  | refine Chg.trans ?_ c2))⟩
      first
        | exact hs2
        | exact hs2.chg ((Chg.refl [w.heap.size + 2] _).putRow _ _ _ (.inl (by simp))) (by intro a ha; have := hA3 a ha; have := oR.lt; simp; omega)
        | exact hs2.chg c3 (by simp)
        | exact (hs2.chg c3 (by simp)).chg ((Chg.refl [w.heap.size + 2] _).putRow _ _ _ (.inl (by simp))) (by intro a ha; have := hA3 a ha; have := oR.lt; simp; omega)

  · have h2 : (x.ow != -1) = false ∨ ((x.ow != -1) = true ∧ (x.ow != c) = false) := by
      by_cases a : x.ow = -1
      · exact .inl (by simp [a])
      · have b : x.ow = c := Decidable.byContradiction fun b => h ⟨a, b⟩
        exact .inr ⟨by simpa using a, by simp [b]⟩
    by_cases hs : x.sh = 0#8
    · have e1 : getSE x c m = ownedE x c 9 m.li := by unfold getSE; rw [if_neg h, if_pos hs]
      rw [e1]
      have t3 : (x.sh == 0#8) = true := by simpa using hs
      clear e1 h hs
      rcases h2 with t0 | ⟨t0, t1⟩
      all_goals
        go_enter Tryz.func205, Tryz.ntmps205
        try dsimp only [List.append]
        go_wp2_with fail
        refine gen_calls3 (w := w) (b1 := w.heap.size) (x1 := .cells (ec (x)) 56 (0, 0)) (b2 := w.heap.size + 1) (x2 := .cells (msc m) 38 (0, 0)) (b3 := w.heap.size + 2) (x3 := .cells (ec (enZ)) 56 (0, 0)) (by (repeat' (first | exact Chg.refl _ _ | assumption | exact Chg.refl [] _ | refine Chg.drew ?_ | refine Chg.drewN ?_ _ | refine Chg.alloc ?_ _ | refine Chg.putRow ?_ _ _ _ (.inr (by first | exact Nat.le_refl _ | omega | simp)) | refine Chg.setCell ?_ _ _ _ (.inr (by first | exact Nat.le_refl _ | omega | simp)) ))) (by simp [*]) (by simp [*]) (by simp [*]) fun w1 C1 rE rM rR => ?_
        have oE := old rE
        have oM := old rM
        have oR := old rR
        have o0 := h0.chg C1
        refine (downed_any x c 9 m.li _ o0).mono ?_
        rintro e w2 ⟨A2, n2, rfl, hs2, hA3, c2⟩
        have rR2 := c2.keep rR (by simp)
        have oR2 := old rR2
        go_wp2_with fail
        refine bodyPost_ret (v := .tuple #[.agg (ec ((ownedE x c 9 m.li).1)), .slice A2 (ownedE x c 9 m.li).2.length n2]) ?_ (by rfl) ?_
        · exact results_en2 (by rfl) _ _ (w.heap.size + 2) _ (0, 0) (by rfl) (by first | exact rR2 | (simp [rR2]; done)) _ (by rfl)
        refine ⟨A2, n2, rfl, ?_, fun a ha => Nat.le_trans C1.size (hA3 a ha), by (repeat' (first | exact Chg.refl _ _ | assumption | exact Chg.refl [] _ | refine Chg.drew ?_ | refine Chg.drewN ?_ _ | refine Chg.alloc ?_ _ | refine Chg.putRow ?_ _ _ _ (.inr (by first | exact Nat.le_refl _ | omega | simp)) | refine Chg.setCell ?_ _ _ _ (.inr (by first | exact Nat.le_refl _ | omega | simp))  | refine Chg.trans ?_ c2))⟩
        exact hs2.chg ((Chg.refl [w.heap.size + 2] _).putRow _ _ _ (.inl (by simp))) (by intro a ha; have := hA3 a ha; have := oR.lt; simp; omega)

    · have e1 : getSE x c m = sharedE x c m.li := by unfold getSE; rw [if_neg h, if_neg hs]
      rw [e1]
      have t3 : (x.sh == 0#8) = false := by simpa using hs
      clear e1 h hs
      rcases h2 with t0 | ⟨t0, t1⟩
      all_goals
        go_enter Tryz.func205, Tryz.ntmps205
        try dsimp only [List.append]
        go_wp2_with fail
        refine gen_calls3 (w := w) (b1 := w.heap.size) (x1 := .cells (ec (x)) 56 (0, 0)) (b2 := w.heap.size + 1) (x2 := .cells (msc m) 38 (0, 0)) (b3 := w.heap.size + 2) (x3 := .cells (ec (enZ)) 56 (0, 0)) (by (repeat' (first | exact Chg.refl _ _ | assumption | exact Chg.refl [] _ | refine Chg.drew ?_ | refine Chg.drewN ?_ _ | refine Chg.alloc ?_ _ | refine Chg.putRow ?_ _ _ _ (.inr (by first | exact Nat.le_refl _ | omega | simp)) | refine Chg.setCell ?_ _ _ _ (.inr (by first | exact Nat.le_refl _ | omega | simp)) ))) (by simp [*]) (by simp [*]) (by simp [*]) fun w1 C1 rE rM rR => ?_
        have oE := old rE
        have oM := old rM
        have oR := old rR
        have o0 := h0.chg C1
        refine (dshared_any x c m.li _ o0).mono ?_
        rintro e w2 ⟨A2, n2, rfl, hs2, hA3, c2⟩
        have rR2 := c2.keep rR (by simp)
        have oR2 := old rR2
        go_wp2_with fail
        refine bodyPost_ret (v := .tuple #[.agg (ec ((sharedE x c m.li).1)), .slice A2 (sharedE x c m.li).2.length n2]) ?_ (by rfl) ?_
        · exact results_en2 (by rfl) _ _ (w.heap.size + 2) _ (0, 0) (by rfl) (by first | exact rR2 | (simp [rR2]; done)) _ (by rfl)
        refine ⟨A2, n2, rfl, ?_, fun a ha => Nat.le_trans C1.size (hA3 a ha), by (repeat' (first | exact Chg.refl _ _ | assumption | exact Chg.refl [] _ | refine Chg.drew ?_ | refine Chg.drewN ?_ _ | refine Chg.alloc ?_ _ | refine Chg.putRow ?_ _ _ _ (.inr (by first | exact Nat.le_refl _ | omega | simp)) | refine Chg.setCell ?_ _ _ _ (.inr (by first | exact Nat.le_refl _ | omega | simp))  | refine Chg.trans ?_ c2))⟩
        exact hs2.chg ((Chg.refl [w.heap.size + 2] _).putRow _ _ _ (.inl (by simp))) (by intro a ha; have := hA3 a ha; have := oR.lt; simp; omega)


theorem dclean_any (x : En) (c : Int) (m : Ms) (w : World) (h0 : Old w 0) : Calls Tryz.prog 208 #[.agg (ec x), .int .i64 c, .agg (msc m)] w (EnSds w (cleanE x c m)) := by
  rw [show cleanE x c m = waitE x c m (bitM x.ow) 13 from rfl]
  go_enter Tryz.func208, Tryz.ntmps208
  try dsimp only [List.append]
  go_wp2_with fail
  refine gen_world3 (w := w) (b1 := w.heap.size) (x1 := .cells (ec (x)) 56 (0, 0)) (b2 := w.heap.size + 1) (x2 := .cells (msc m) 38 (0, 0)) (b3 := w.heap.size + 2) (x3 := .cells (ec (enZ)) 56 (0, 0)) (by (repeat' (first | exact Chg.refl _ _ | assumption | exact Chg.refl [] _ | refine Chg.drew ?_ | refine Chg.drewN ?_ _ | refine Chg.alloc ?_ _ | refine Chg.putRow ?_ _ _ _ (.inr (by first | exact Nat.le_refl _ | omega | simp)) | refine Chg.setCell ?_ _ _ _ (.inr (by first | exact Nat.le_refl _ | omega | simp)) ))) (by simp [*]) (by simp [*]) (by simp [*]) fun w1 C1 rE rM rR => ?_
  have oE := old rE
  have oM := old rM
  have oR := old rR
  have o0 := h0.chg C1
  go_region_held3 (fun w' => w'.heap[w.heap.size]? = some (.cells (ec (x)) 56 (0, 0)) ∧ w'.heap[w.heap.size + 1]? = some (.cells (msc m) 38 (0, 0))) (first | exact ⟨rE, rM⟩ | exact ⟨c2.keep rE (by simp), c2.keep rM (by simp)⟩ | exact ⟨c2.keep (by simp [*]) (by simp), c2.keep (by simp [*]) (by simp)⟩ | simp [*])
    (first
      | (go_at_call 164; refine (gbit_any _ _).mono ?_; rintro e w' ⟨rfl, rfl⟩)
      | (go_at_call 227; refine (dwait_any _ _ _ _ _ _ ?_).mono ?_; exact (by first | exact o0 | exact o0.chg C1 | (show (0 : Nat) < _; simpa using o0.lt)); rintro e w' ⟨A2, n2, rfl, hs2, hA2, c2⟩; (have hA3 : ∀ a, A2 = some a → w1.heap.size ≤ a.block := (by simpa using hA2)); (first | (have rR2 := c2.keep rR (by simp)) | (have rR2 := c2.keep (x := .cells (ec (x)) 56 (0, 0)) (k := w.heap.size + 2) (by simp [rR]) (by simp)))))
  all_goals
    go_wp2_with fail
    refine bodyPost_ret (v := .tuple #[.agg (ec ((waitE x c m (bitM x.ow) 13).1)), .slice A2 (waitE x c m (bitM x.ow) 13).2.length n2]) ?_ (by rfl) ?_
    · exact results_en2 (by rfl) _ _ (w.heap.size + 2) _ (0, 0) (by rfl) (by first | exact rR2 | (simp [rR2]; done)) _ (by rfl)
    refine ⟨A2, n2, rfl, ?_, fun a ha => Nat.le_trans C1.size (hA3 a ha), by (repeat' (first | exact Chg.refl _ _ | assumption | exact Chg.refl [] _ | refine Chg.drew ?_ | refine Chg.drewN ?_ _ | refine Chg.alloc ?_ _ | refine Chg.putRow ?_ _ _ _ (.inr (by first | exact Nat.le_refl _ | omega | simp)) | refine Chg.setCell ?_ _ _ _ (.inr (by first | exact Nat.le_refl _ | omega | simp))  | refine Chg.trans ?_ c2))⟩
    first
      | exact hs2
      | exact hs2.chg ((Chg.refl [w.heap.size + 2] _).putRow _ _ _ (.inl (by simp))) (by intro a ha; have := hA3 a ha; have := oR.lt; simp; omega)
      | exact hs2.chg c3 (by simp)
      | exact (hs2.chg c3 (by simp)).chg ((Chg.refl [w.heap.size + 2] _).putRow _ _ _ (.inl (by simp))) (by intro a ha; have := hA3 a ha; have := oR.lt; simp; omega)

theorem dwipe_any (x : En) (c : Int) (m : Ms) (w : World) (h0 : Old w 0) : Calls Tryz.prog 209 #[.agg (ec x), .int .i64 c, .agg (msc m)] w (EnSds w (wipeE x c m)) := by
  rw [show wipeE x c m = waitE x c m (holders x) 12 from rfl]
  go_enter Tryz.func209, Tryz.ntmps209
  try dsimp only [List.append]
  go_wp2_with fail
  refine gen_world3 (w := w) (b1 := w.heap.size) (x1 := .cells (ec (x)) 56 (0, 0)) (b2 := w.heap.size + 1) (x2 := .cells (msc m) 38 (0, 0)) (b3 := w.heap.size + 2) (x3 := .cells (ec (enZ)) 56 (0, 0)) (by (repeat' (first | exact Chg.refl _ _ | assumption | exact Chg.refl [] _ | refine Chg.drew ?_ | refine Chg.drewN ?_ _ | refine Chg.alloc ?_ _ | refine Chg.putRow ?_ _ _ _ (.inr (by first | exact Nat.le_refl _ | omega | simp)) | refine Chg.setCell ?_ _ _ _ (.inr (by first | exact Nat.le_refl _ | omega | simp)) ))) (by simp [*]) (by simp [*]) (by simp [*]) fun w1 C1 rE rM rR => ?_
  have oE := old rE
  have oM := old rM
  have oR := old rR
  have o0 := h0.chg C1
  go_region_held3 (fun w' => w'.heap[w.heap.size]? = some (.cells (ec (x)) 56 (0, 0)) ∧ w'.heap[w.heap.size + 1]? = some (.cells (msc m) 38 (0, 0))) (first | exact ⟨rE, rM⟩ | exact ⟨c2.keep rE (by simp), c2.keep rM (by simp)⟩ | exact ⟨c3.keep rE (by simp), c3.keep rM (by simp)⟩ | exact ⟨c2.keep (by simp [*]) (by simp), c2.keep (by simp [*]) (by simp)⟩ | exact ⟨c3.keep (by simp [*]) (by simp), c3.keep (by simp [*]) (by simp)⟩ | simp [*])
    (first
      | (go_at_call 228; refine (dholders_any _ _).mono ?_; rintro e w' ⟨rfl, c3⟩; (have rR3 := c3.keep rR (by simp)); (have o3 := Old.chg (b := 0) (by first | exact o0 | exact o0.chg C1 | (show (0 : Nat) < _; simpa using o0.lt)) c3); (have z3 := c3.size))
      | (go_at_call 227; refine (dwait_any _ _ _ _ _ _ ?_).mono ?_; exact o3; rintro e w' ⟨A2, n2, rfl, hs2, hA2, c2⟩; (have hA3 : ∀ a, A2 = some a → w1.heap.size ≤ a.block := (fun a ha => Nat.le_trans z3 (hA2 a ha))); have rR2 := c2.keep rR3 (by simp)))
  all_goals
    go_wp2_with fail
    refine bodyPost_ret (v := .tuple #[.agg (ec ((waitE x c m (holders x) 12).1)), .slice A2 (waitE x c m (holders x) 12).2.length n2]) ?_ (by rfl) ?_
    · exact results_en2 (by rfl) _ _ (w.heap.size + 2) _ (0, 0) (by rfl) (by first | exact rR2 | (simp [rR2]; done)) _ (by rfl)
    refine ⟨A2, n2, rfl, ?_, fun a ha => Nat.le_trans C1.size (hA3 a ha), by (repeat' (first | exact Chg.refl _ _ | assumption | exact Chg.refl [] _ | refine Chg.drew ?_ | refine Chg.drewN ?_ _ | refine Chg.alloc ?_ _ | refine Chg.putRow ?_ _ _ _ (.inr (by first | exact Nat.le_refl _ | omega | simp)) | refine Chg.setCell ?_ _ _ _ (.inr (by first | exact Nat.le_refl _ | omega | simp))  | refine Chg.trans ?_ c2 | refine Chg.trans ?_ c3))⟩
    first
      | exact hs2
      | exact hs2.chg ((Chg.refl [w.heap.size + 2] _).putRow _ _ _ (.inl (by simp))) (by intro a ha; have := hA3 a ha; have := oR.lt; simp; omega)
      | exact hs2.chg c3 (by simp)
      | exact (hs2.chg c3 (by simp)).chg ((Chg.refl [w.heap.size + 2] _).putRow _ _ _ (.inl (by simp))) (by intro a ha; have := hA3 a ha; have := oR.lt; simp; omega)


theorem dgetM_any (x : En) (c : Int) (m : Ms) (w : World) (h0 : Old w 0) : Calls Tryz.prog 206 #[.agg (ec x), .int .i64 c, .agg (msc m)] w (EnSds w (getME x c m)) := by
  by_cases h : (holders x &&& ~~~(bitM c)) = 0#8
  · have e1 : getME x c m = ownedE x c 10 m.li := by unfold getME; rw [if_pos h]
    have t1 : ((holders x &&& ~~~(bitM c)) == 0#8) = true := by simpa using h
    rw [e1]
    clear e1 h
    go_enter Tryz.func206, Tryz.ntmps206
    try dsimp only [List.append]
    go_wp2_with fail
    refine gen_calls3 (w := w) (b1 := w.heap.size) (x1 := .cells (ec (x)) 56 (0, 0)) (b2 := w.heap.size + 1) (x2 := .cells (msc m) 38 (0, 0)) (b3 := w.heap.size + 2) (x3 := .cells (ec (enZ)) 56 (0, 0)) (by (repeat' (first | exact Chg.refl _ _ | assumption | exact Chg.refl [] _ | refine Chg.drew ?_ | refine Chg.drewN ?_ _ | refine Chg.alloc ?_ _ | refine Chg.putRow ?_ _ _ _ (.inr (by first | exact Nat.le_refl _ | omega | simp)) | refine Chg.setCell ?_ _ _ _ (.inr (by first | exact Nat.le_refl _ | omega | simp)) ))) (by simp [*]) (by simp [*]) (by simp [*]) fun w1 C1 rE rM rR => ?_
    have oE := old rE
    have oM := old rM
    have oR := old rR
    have o0 := h0.chg C1
    refine (dholders_any x w1).mono ?_
    rintro e w3 ⟨rfl, c3⟩
    have rE3 := c3.keep rE (by simp)
    have rM3 := c3.keep rM (by simp)
    have rR3 := c3.keep rR (by simp)
    have C3 := C1.trans c3
    have o3 := h0.chg C3
    clear rE rM rR oE oM oR o0 C1 c3
    have oE3 := old rE3
    have oM3 := old rM3
    have oR3 := old rR3
    go_wp2_with (go_at_call 164; refine (gbit_any _ _).mono ?_; rintro e w' ⟨rfl, rfl⟩)
    refine (downed_any x c 10 m.li _ (by exact o3)).mono ?_
    rintro e w2 ⟨A2, n2, rfl, hs2, hA3, c2⟩
    have rR2 := c2.keep rR3 (by simp)
    have oR2 := old rR2
    go_wp2_with fail
    refine bodyPost_ret (v := .tuple #[.agg (ec ((ownedE x c 10 m.li).1)), .slice A2 (ownedE x c 10 m.li).2.length n2]) ?_ (by rfl) ?_
    · exact results_en2 (by rfl) _ _ (w.heap.size + 2) _ (0, 0) (by rfl) (by simp [rR2]; done) _ (by rfl)
    refine ⟨A2, n2, rfl, ?_, fun a ha => Nat.le_trans C3.size (hA3 a ha), by (repeat' (first | exact Chg.refl _ _ | assumption | exact Chg.refl [] _ | refine Chg.drew ?_ | refine Chg.drewN ?_ _ | refine Chg.alloc ?_ _ | refine Chg.putRow ?_ _ _ _ (.inr (by first | exact Nat.le_refl _ | omega | simp)) | refine Chg.setCell ?_ _ _ _ (.inr (by first | exact Nat.le_refl _ | omega | simp))  | refine Chg.trans ?_ c2))⟩
    exact hs2.chg ((Chg.refl [w.heap.size + 2] _).putRow _ _ _ (.inl (by simp))) (by intro a ha; have := hA3 a ha; have := oR3.lt; simp; omega)
  · have e1 : getME x c m = waitE x c m (holders x &&& ~~~(bitM c)) 12 := by unfold getME; rw [if_neg h]
    have t1 : ((holders x &&& ~~~(bitM c)) == 0#8) = false := by simpa using h
    rw [e1]
    clear e1 h
    go_enter Tryz.func206, Tryz.ntmps206
    try dsimp only [List.append]
    go_wp2_with fail
    refine gen_calls3 (w := w) (b1 := w.heap.size) (x1 := .cells (ec (x)) 56 (0, 0)) (b2 := w.heap.size + 1) (x2 := .cells (msc m) 38 (0, 0)) (b3 := w.heap.size + 2) (x3 := .cells (ec (enZ)) 56 (0, 0)) (by (repeat' (first | exact Chg.refl _ _ | assumption | exact Chg.refl [] _ | refine Chg.drew ?_ | refine Chg.drewN ?_ _ | refine Chg.alloc ?_ _ | refine Chg.putRow ?_ _ _ _ (.inr (by first | exact Nat.le_refl _ | omega | simp)) | refine Chg.setCell ?_ _ _ _ (.inr (by first | exact Nat.le_refl _ | omega | simp)) ))) (by simp [*]) (by simp [*]) (by simp [*]) fun w1 C1 rE rM rR => ?_
    have oE := old rE
    have oM := old rM
    have oR := old rR
    have o0 := h0.chg C1
    refine (dholders_any x w1).mono ?_
    rintro e w3 ⟨rfl, c3⟩
    have rE3 := c3.keep rE (by simp)
    have rM3 := c3.keep rM (by simp)
    have rR3 := c3.keep rR (by simp)
    have C3 := C1.trans c3
    have o3 := h0.chg C3
    clear rE rM rR oE oM oR o0 C1 c3
    have oE3 := old rE3
    have oM3 := old rM3
    have oR3 := old rR3
    go_wp2_with (go_at_call 164; refine (gbit_any _ _).mono ?_; rintro e w' ⟨rfl, rfl⟩)
    refine (dwait_any x c m (holders x &&& ~~~(bitM c)) 12 _ (by exact o3)).mono ?_
    rintro e w2 ⟨A2, n2, rfl, hs2, hA3, c2⟩
    have rR2 := c2.keep rR3 (by simp)
    have oR2 := old rR2
    go_wp2_with fail
    refine bodyPost_ret (v := .tuple #[.agg (ec ((waitE x c m (holders x &&& ~~~(bitM c)) 12).1)), .slice A2 (waitE x c m (holders x &&& ~~~(bitM c)) 12).2.length n2]) ?_ (by rfl) ?_
    · exact results_en2 (by rfl) _ _ (w.heap.size + 2) _ (0, 0) (by rfl) (by simp [rR2]; done) _ (by rfl)
    refine ⟨A2, n2, rfl, ?_, fun a ha => Nat.le_trans C3.size (hA3 a ha), by (repeat' (first | exact Chg.refl _ _ | assumption | exact Chg.refl [] _ | refine Chg.drew ?_ | refine Chg.drewN ?_ _ | refine Chg.alloc ?_ _ | refine Chg.putRow ?_ _ _ _ (.inr (by first | exact Nat.le_refl _ | omega | simp)) | refine Chg.setCell ?_ _ _ _ (.inr (by first | exact Nat.le_refl _ | omega | simp))  | refine Chg.trans ?_ c2))⟩
    exact hs2.chg ((Chg.refl [w.heap.size + 2] _).putRow _ _ _ (.inl (by simp))) (by intro a ha; have := hA3 a ha; have := oR3.lt; simp; omega)


theorem dput_any (x : En) (c : Int) (m : Ms) (w : World) (h0 : Old w 0) : Calls Tryz.prog 207 #[.agg (ec x), .int .i64 c, .agg (msc m)] w (EnSds w (putE x c m)) := by
  by_cases h : x.ow = c
  · have e1 : putE x c m = (withoutE (writtenE x m) c, tellL (bitM c) (ms4 11 m.li false false)) := by unfold putE; rw [if_pos h]
    have t1 : (x.ow == c) = true := by simpa using h
    rw [e1]
    clear e1 h
    go_enter Tryz.func207, Tryz.ntmps207
    try dsimp only [List.append]
    go_wp2_with fail
    refine gen_calls3 (w := w) (b1 := w.heap.size) (x1 := .cells (ec (x)) 56 (0, 0)) (b2 := w.heap.size + 1) (x2 := .cells (msc m) 38 (0, 0)) (b3 := w.heap.size + 2) (x3 := .cells (ec (enZ)) 56 (0, 0)) (by (repeat' (first | exact Chg.refl _ _ | assumption | exact Chg.refl [] _ | refine Chg.drew ?_ | refine Chg.drewN ?_ _ | refine Chg.alloc ?_ _ | refine Chg.putRow ?_ _ _ _ (.inr (by first | exact Nat.le_refl _ | omega | simp)) | refine Chg.setCell ?_ _ _ _ (.inr (by first | exact Nat.le_refl _ | omega | simp)) ))) (by simp [*]) (by simp [*]) (by simp [*]) fun w1 C1 rE rM rR => ?_
    have oE := old rE
    have oM := old rM
    have oR := old rR
    refine (dwritten_any x m w1).mono ?_
    rintro e w3 ⟨rfl, c3⟩
    have rE3 := c3.keep rE (by simp)
    have rM3 := c3.keep rM (by simp)
    have rR3 := c3.keep rR (by simp)
    have C3 := C1.trans c3
    clear rE rM rR oE oM oR C1 c3
    go_wp2_with fail
    refine gen_world3 (w := w) (b1 := w.heap.size) (x1 := .cells (ec (writtenE x m)) 56 (0, 0)) (b2 := w.heap.size + 1) (x2 := .cells (msc m) 38 (0, 0)) (b3 := w.heap.size + 2) (x3 := .cells (ec (enZ)) 56 (0, 0)) (by (repeat' (first | exact Chg.refl _ _ | assumption | exact Chg.refl [] _ | refine Chg.drew ?_ | refine Chg.drewN ?_ _ | refine Chg.alloc ?_ _ | refine Chg.putRow ?_ _ _ _ (.inr (by first | exact Nat.le_refl _ | omega | simp)) | refine Chg.setCell ?_ _ _ _ (.inr (by first | exact Nat.le_refl _ | omega | simp)) ))) (by simp [*]) (by simp [*]) (by simp [*]) fun w1 C1 rE rM rR => ?_
    have oE := old rE
    have oM := old rM
    have oR := old rR
    have o0 := h0.chg C1
    go_region_held3 (fun w' => w'.heap[w.heap.size]? = some (.cells (ec (writtenE x m)) 56 (0, 0)) ∧ w'.heap[w.heap.size + 1]? = some (.cells (msc m) 38 (0, 0))) (first | exact ⟨rE, rM⟩ | exact ⟨c2.keep rE (by simp), c2.keep rM (by simp)⟩ | exact ⟨c3.keep rE (by simp), c3.keep rM (by simp)⟩ | exact ⟨c2.keep (by simp [*]) (by simp), c2.keep (by simp [*]) (by simp)⟩ | exact ⟨c3.keep (by simp [*]) (by simp), c3.keep (by simp [*]) (by simp)⟩ | simp [*])
      (first
        | (go_at_call 164; refine (gbit_any _ _).mono ?_; rintro e w' ⟨rfl, rfl⟩)
        | (go_at_call 212; refine (dwithout_any _ _ _).mono ?_; rintro e w' ⟨rfl, c3⟩; (first | (have rR3 := c3.keep rR (by simp)) | (have rR3 := c3.keep rR2 (by simp))))
        | (go_at_call 163; refine (dtell4_any _ _ _ _ _ _ (by first | exact o0 | exact Old.chg (b := 0) (by exact o0) c3 | exact Old.chg (b := 0) o0 c3 | (show (0 : Nat) < _; have := o0.lt; have := c3.size; simp at *; omega))).mono ?_; rintro e w' ⟨A2, n2, rfl, hs2, hA2, c2⟩; (have hA3 : ∀ a, A2 = some a → w1.heap.size ≤ a.block := (by first | exact hA2 | exact (fun a ha => Nat.le_trans c3.size (hA2 a ha)) | (intro a ha; have := hA2 a ha; have := c3.size; simp at *; omega))); (first | (have rR2 := c2.keep rR (by simp)) | (have rR2 := c2.keep rR3 (by simp)) | (have rR2 := c2.keep (x := .cells (ec (withoutE (writtenE x m) c)) 56 (0, 0)) (k := w.heap.size + 2) (by simp [rR3]) (by simp)))))
    all_goals
      go_wp2_with fail
      refine bodyPost_ret (v := .tuple #[.agg (ec (withoutE (writtenE x m) c)), .slice A2 (tellL (bitM c) (ms4 11 m.li false false)).length n2]) ?_ (by rfl) ?_
      · exact results_en2 (by rfl) _ _ (w.heap.size + 2) _ (0, 0) (by rfl) (by first | exact rR2 | (simp [rR2]; done) | (simp [rR3]; done)) _ (by rfl)
      refine ⟨A2, n2, rfl, ?_, fun a ha => Nat.le_trans C1.size (hA3 a ha), by (repeat' (first | exact Chg.refl _ _ | assumption | exact Chg.refl [] _ | refine Chg.drew ?_ | refine Chg.drewN ?_ _ | refine Chg.alloc ?_ _ | refine Chg.putRow ?_ _ _ _ (.inr (by first | exact Nat.le_refl _ | omega | simp)) | refine Chg.setCell ?_ _ _ _ (.inr (by first | exact Nat.le_refl _ | omega | simp))  | refine Chg.trans ?_ c2 | refine Chg.trans ?_ c3))⟩
      first
        | exact hs2
        | exact hs2.chg ((Chg.refl [w.heap.size + 2] _).putRow _ _ _ (.inl (by simp))) (by intro a ha; have := hA3 a ha; have := oR.lt; simp; omega)
        | exact hs2.chg c3 (by simp)
        | exact (hs2.chg c3 (by simp)).chg ((Chg.refl [w.heap.size + 2] _).putRow _ _ _ (.inl (by simp))) (by intro a ha; have := hA3 a ha; have := oR.lt; simp; omega)
  · have e1 : putE x c m = (withoutE x c, tellL (bitM c) (ms4 11 m.li false false)) := by unfold putE; rw [if_neg h]
    have t1 : (x.ow == c) = false := by simpa using h
    rw [e1]
    clear e1 h
    go_enter Tryz.func207, Tryz.ntmps207
    try dsimp only [List.append]
    go_wp2_with fail
    refine gen_world3 (w := w) (b1 := w.heap.size) (x1 := .cells (ec (x)) 56 (0, 0)) (b2 := w.heap.size + 1) (x2 := .cells (msc m) 38 (0, 0)) (b3 := w.heap.size + 2) (x3 := .cells (ec (enZ)) 56 (0, 0)) (by (repeat' (first | exact Chg.refl _ _ | assumption | exact Chg.refl [] _ | refine Chg.drew ?_ | refine Chg.drewN ?_ _ | refine Chg.alloc ?_ _ | refine Chg.putRow ?_ _ _ _ (.inr (by first | exact Nat.le_refl _ | omega | simp)) | refine Chg.setCell ?_ _ _ _ (.inr (by first | exact Nat.le_refl _ | omega | simp)) ))) (by simp [*]) (by simp [*]) (by simp [*]) fun w1 C1 rE rM rR => ?_
    have oE := old rE
    have oM := old rM
    have oR := old rR
    have o0 := h0.chg C1
    go_region_held3 (fun w' => w'.heap[w.heap.size]? = some (.cells (ec (x)) 56 (0, 0)) ∧ w'.heap[w.heap.size + 1]? = some (.cells (msc m) 38 (0, 0))) (first | exact ⟨rE, rM⟩ | exact ⟨c2.keep rE (by simp), c2.keep rM (by simp)⟩ | exact ⟨c3.keep rE (by simp), c3.keep rM (by simp)⟩ | exact ⟨c2.keep (by simp [*]) (by simp), c2.keep (by simp [*]) (by simp)⟩ | exact ⟨c3.keep (by simp [*]) (by simp), c3.keep (by simp [*]) (by simp)⟩ | simp [*])
      (first
        | (go_at_call 164; refine (gbit_any _ _).mono ?_; rintro e w' ⟨rfl, rfl⟩)
        | (go_at_call 212; refine (dwithout_any _ _ _).mono ?_; rintro e w' ⟨rfl, c3⟩; (first | (have rR3 := c3.keep rR (by simp)) | (have rR3 := c3.keep rR2 (by simp))))
        | (go_at_call 163; refine (dtell4_any _ _ _ _ _ _ (by first | exact o0 | exact Old.chg (b := 0) (by exact o0) c3 | exact Old.chg (b := 0) o0 c3 | (show (0 : Nat) < _; have := o0.lt; have := c3.size; simp at *; omega))).mono ?_; rintro e w' ⟨A2, n2, rfl, hs2, hA2, c2⟩; (have hA3 : ∀ a, A2 = some a → w1.heap.size ≤ a.block := (by first | exact hA2 | exact (fun a ha => Nat.le_trans c3.size (hA2 a ha)) | (intro a ha; have := hA2 a ha; have := c3.size; simp at *; omega))); (first | (have rR2 := c2.keep rR (by simp)) | (have rR2 := c2.keep rR3 (by simp)) | (have rR2 := c2.keep (x := .cells (ec (withoutE (x) c)) 56 (0, 0)) (k := w.heap.size + 2) (by simp [rR3]) (by simp)))))
    all_goals
      go_wp2_with fail
      refine bodyPost_ret (v := .tuple #[.agg (ec (withoutE (x) c)), .slice A2 (tellL (bitM c) (ms4 11 m.li false false)).length n2]) ?_ (by rfl) ?_
      · exact results_en2 (by rfl) _ _ (w.heap.size + 2) _ (0, 0) (by rfl) (by first | exact rR2 | (simp [rR2]; done) | (simp [rR3]; done)) _ (by rfl)
      refine ⟨A2, n2, rfl, ?_, fun a ha => Nat.le_trans C1.size (hA3 a ha), by (repeat' (first | exact Chg.refl _ _ | assumption | exact Chg.refl [] _ | refine Chg.drew ?_ | refine Chg.drewN ?_ _ | refine Chg.alloc ?_ _ | refine Chg.putRow ?_ _ _ _ (.inr (by first | exact Nat.le_refl _ | omega | simp)) | refine Chg.setCell ?_ _ _ _ (.inr (by first | exact Nat.le_refl _ | omega | simp))  | refine Chg.trans ?_ c2 | refine Chg.trans ?_ c3))⟩
      first
        | exact hs2
        | exact hs2.chg ((Chg.refl [w.heap.size + 2] _).putRow _ _ _ (.inl (by simp))) (by intro a ha; have := hA3 a ha; have := oR.lt; simp; omega)
        | exact hs2.chg c3 (by simp)
        | exact (hs2.chg c3 (by simp)).chg ((Chg.refl [w.heap.size + 2] _).putRow _ _ _ (.inl (by simp))) (by intro a ha; have := hA3 a ha; have := oR.lt; simp; omega)
end Go.Proofs.YtadeoflkppiflaaGreatDoor
end
section
namespace Go.Proofs.YtadeoflkppiflaaGreatDoor
open Go.RowKit
set_option linter.unusedVariables false
set_option maxHeartbeats 1000000
set_option maxRecDepth 100000
attribute [local go_sem ↓] append_appS copy_copS clear_clrS make_mkS slice_slS cell_row frozen_row loadLine storeLine loadMsg storeMsg heap_drew heap_drewN heap_alloc heap_past heap_setCell heap_putRow vs_get msc_kd msc_li msc_di msc_ke
attribute [local go_sem] rowCell_some rowFrozen_some rowHas_some rowIn_some rowPart_full rowPart_lit rowPut_full rowPut_lit rowSet_some size_putRow vs_size vs_one wideLine wideMsg run_loadS run_storeS run_appS run_copS run_clrS run_mkS run_slS loadW_at storeW_at fit_all fit_le one_int one_bool one_pointer one_slice allOne_list putRow_new ne_size1 ne_size2 ne_size3 ne_size4 zero8_length line_eq lit8 msc_size msc_one msc_part msc_in fold_msc
attribute [local simp ↓] heap_drew heap_drewN heap_alloc heap_past heap_setCell heap_putRow
attribute [local simp] rowCell_some rowFrozen_some rowHas_some rowIn_some rowPart_full rowPart_lit rowPut_full rowPut_lit rowSet_some size_putRow vs_size fit_all putRow_new ne_size1 ne_size2 ne_size3 ne_size4 zero8_length msc_size
attribute [local go_sem ↓] ec_he ec_di ec_ow ec_sh ec_bu ec_by ec_wa sc_to
attribute [local go_sem] mi_and mi_or mi_not mi_beq0 mi_bne0 ec_size ec_one ec_part ec_in ec_has ec_setDi ec_setOw ec_setSh ec_setBu ec_setBy ec_setWa ec_setSh0 ec_setWa0 ec_putM sc_size sc_one sc_part sc_in
attribute [local simp] ec_size sc_size ec_setDi ec_setOw ec_setSh ec_setBu ec_setBy ec_setWa ec_setSh0 ec_setWa0 ec_putM
attribute [local go_sem ↓] loadEn storeEn loadSd storeSd en_z0
attribute [local go_sem] wideEn wideSd fold_sc size11 putRow_newB putRow_newC ms5_lit
attribute [local simp] en_z0 putRow_newB putRow_newC fit_le ec_has


theorem wideDd : Wide Tryz.prog 222 6 := ⟨⟨_, Tryz.underlying222, by rfl⟩, by kernel_rfl⟩
theorem loadDd (x : Value) : Instr.loadAt 222 x = loadS 222 6 x := rfl
theorem storeDd (x y : Value) : Instr.storeAt 222 x y = storeS 222 6 x y := rfl
/-- What each kind of request does. -/
def ddv : Array Value := #[.nilFunc, .func (.func 205) #[] #[], .func (.func 206) #[] #[], .func (.func 207) #[] #[], .func (.func 208) #[] #[], .func (.func 209) #[] #[]]
theorem ddv_one : allOne ddv := allOne_list [.nilFunc, .func (.func 205) #[] #[], .func (.func 206) #[] #[], .func (.func 207) #[] #[], .func (.func 208) #[] #[], .func (.func 209) #[] #[]] rfl
theorem ddv_lit : (#[.nilFunc, .func (.func 205) #[] #[], .func (.func 206) #[] #[], .func (.func 207) #[] #[], .func (.func 208) #[] #[], .func (.func 209) #[] #[]] : Array Value) = ddv := rfl
attribute [local go_sem ↓] loadDd storeDd ddv_lit
attribute [local go_sem] wideDd ddv_one
theorem ddeeds_any (w : World) : Calls Tryz.prog 146 #[] w fun e w' => e = .returned (.agg ddv) ∧ Chg [] w w' := by
  have hz : ddv.size = 6 := rfl
  go_enter Tryz.func146, Tryz.ntmps146
  try dsimp only [List.append]
  go_wp2
  refine bodyPost_ret (v := .agg ddv) ?_ (by rfl) ?_
  · have hb : (w.alloc (.cells ddv 222)).heap[w.heap.size]? = some (.cells ddv 222 (0, 0)) := by simp
    have := run_loadVar_row (P := Tryz.prog) (w.alloc (.cells ddv 222)) w.heap.size 222 222 ddv (0, 0) _ hb Tryz.underlying222 rfl (by kernel_rfl)
    simp [results, asAddr, this]
  exact ⟨rfl, by (repeat' (first | with_reducible exact Chg.refl _ _ | with_reducible assumption | with_reducible refine Chg.drew ?_ | with_reducible refine Chg.drewN ?_ _ | with_reducible refine Chg.alloc ?_ _ | with_reducible refine Chg.putRow ?_ _ _ _ (.inr ?_) | with_reducible refine Chg.setCell ?_ _ _ _ (.inr ?_)  | (show _ ≤ _; first | exact Nat.le_refl _ | omega | (simp; done))))⟩

theorem ddv_at1 (W : World) : (Instr.index 222 (.agg ddv) (.int .i64 1)).run Tryz.prog W = .ok (.func (.func 205) #[] #[]) W := by rfl
theorem ddv_at2 (W : World) : (Instr.index 222 (.agg ddv) (.int .i64 2)).run Tryz.prog W = .ok (.func (.func 206) #[] #[]) W := by rfl
theorem ddv_at3 (W : World) : (Instr.index 222 (.agg ddv) (.int .i64 3)).run Tryz.prog W = .ok (.func (.func 207) #[] #[]) W := by rfl
theorem ddv_at4 (W : World) : (Instr.index 222 (.agg ddv) (.int .i64 4)).run Tryz.prog W = .ok (.func (.func 208) #[] #[]) W := by rfl
theorem ddv_at5 (W : World) : (Instr.index 222 (.agg ddv) (.int .i64 5)).run Tryz.prog W = .ok (.func (.func 209) #[] #[]) W := by rfl
/-- An entry, what is told, and a number. -/
def En3 (w : World) (r : (En × List Sd) × Int) : Ending → World → Prop := fun e w' => ∃ A c, e = .returned (.tuple #[.agg (ec r.1.1), .slice A r.1.2.length c, .int .i64 r.2]) ∧ Sl w' 13 A r.1.2.length (cat Sd.enc r.1.2) ∧ (∀ a, A = some a → w.heap.size ≤ a.block) ∧ Chg [] w w'
theorem mgood_at (m : Ms) (b : Bool) (h : mg m = b) (w : World) (ht : Tab w) : Calls Tryz.prog 144 #[.agg (msc m)] w fun e w' => e = .returned (.bool b) ∧ Chg [] w w' := h ▸ mgood_any m w ht
theorem asks_at (k : Int) (b : Bool) (h : asksB k = b) (w : World) : Calls Tryz.prog 145 #[.int .i64 k] w fun e w' => e = .returned (.bool b) ∧ w = w' := h ▸ asks_any k w
theorem answers_at (k : Int) (b : Bool) (h : answersB k = b) (w : World) : Calls Tryz.prog 153 #[.int .i64 k] w fun e w' => e = .returned (.bool b) ∧ w = w' := h ▸ answers_any k w
theorem En3.err (w w' : World) (n : Int) (h : Chg [] w w') : En3 w ((enZ, []), n) (.returned (.tuple #[.agg (ec enZ), .slice none 0 0, .int .i64 n])) w' := ⟨none, 0, rfl, ⟨rfl, .inl rfl⟩, by simp, h⟩
theorem En3.of (w w1 w' w2 : World) (r : En × List Sd) (n : Int) (A2 : Option Addr) (c2 : Nat) (hs : Sl w2 13 A2 r.2.length (cat Sd.enc r.2)) (hA : ∀ a, A2 = some a → w1.heap.size ≤ a.block) (hw : Chg [] w w1) (hk : ∀ a, A2 = some a → a.block ∉ ([] : List Nat)) (h : Chg [] w w') (hs' : Sl w' 13 A2 r.2.length (cat Sd.enc r.2)) :
    En3 w (r, n) (.returned (.tuple #[.agg (ec r.1), .slice A2 r.2.length c2, .int .i64 n])) w' := ⟨A2, c2, rfl, hs', fun a ha => Nat.le_trans hw.size (hA a ha), h⟩

theorem call_enter {P : Program} {f : FuncId} {fn : Func} {c : Code} (hf : P.funcs[f]? = some fn) (hname : (fn.name == "runtime.NumGoroutine") = false) (hb : fn.body = some c) (args : Array Value) (w : World) :
    (callFunc f args).run P w = .ok (.enter f args) w := by
  have h1 : fn.name ≠ "runtime.NumGoroutine" := by simpa using hname
  simp [callFunc, hf, h1, hb]
theorem deed_of (x : En) (c : Int) (m : Ms) (h : asksB m.kd = true) : ∃ K : Nat, (∀ W, (Instr.index 222 (.agg ddv) (.int .i64 m.kd)).run Tryz.prog W = .ok (.func (.func K) #[] #[]) W) ∧
    (∀ args W, (callFunc K args).run Tryz.prog W = .ok (.enter K args) W) ∧ ∀ W, Old W 0 → Calls Tryz.prog K #[.agg (ec x), .int .i64 c, .agg (msc m)] W (EnSds W (deedE x c m)) := by
  have hk : m.kd = 1 ∨ m.kd = 2 ∨ m.kd = 3 ∨ m.kd = 4 ∨ m.kd = 5 := by simp [asksB] at h; omega
  rcases hk with hk | hk | hk | hk | hk
  · exact ⟨_, by rw [hk]; exact ddv_at1, call_enter Tryz.func205 (by kernel_rfl) rfl, fun W h0 => by rw [show deedE x c m = getSE x c m by simp [deedE, hk]]; exact dgetS_any x c m W h0⟩
  · exact ⟨_, by rw [hk]; exact ddv_at2, call_enter Tryz.func206 (by kernel_rfl) rfl, fun W h0 => by rw [show deedE x c m = getME x c m by simp [deedE, hk]]; exact dgetM_any x c m W h0⟩
  · exact ⟨_, by rw [hk]; exact ddv_at3, call_enter Tryz.func207 (by kernel_rfl) rfl, fun W h0 => by rw [show deedE x c m = putE x c m by simp [deedE, hk]]; exact dput_any x c m W h0⟩
  · exact ⟨_, by rw [hk]; exact ddv_at4, call_enter Tryz.func208 (by kernel_rfl) rfl, fun W h0 => by rw [show deedE x c m = cleanE x c m by simp [deedE, hk]]; exact dclean_any x c m W h0⟩
  · exact ⟨_, by rw [hk]; exact ddv_at5, call_enter Tryz.func209 (by kernel_rfl) rfl, fun W h0 => by rw [show deedE x c m = wipeE x c m by simp [deedE, hk]]; exact dwipe_any x c m W h0⟩

set_option maxHeartbeats 8000000 in
theorem dask_any (x : En) (c : Int) (m : Ms) (w : World) (ht : Tab w) : Calls Tryz.prog 90 #[.agg (ec x), .int .i64 c, .agg (msc m)] w (En3 w (askE x c m)) := by
  cases g1 : goodE x
  · skip
    rw [show askE x c m = ((enZ, []), 1) from by simp [askE, askArg, g1]]
    go_enter Tryz.func90, Tryz.ntmps90
    try dsimp only [List.append]
    go_wp2_with fail
    refine gen_calls3 (w := w) (b1 := w.heap.size) (x1 := .cells (ec (x)) 56 (0, 0)) (b2 := w.heap.size + 1) (x2 := .cells (msc m) 38 (0, 0)) (b3 := w.heap.size + 2) (x3 := .cells (ec (enZ)) 56 (0, 0)) (by (repeat' (first | with_reducible exact Chg.refl _ _ | with_reducible assumption | with_reducible refine Chg.drew ?_ | with_reducible refine Chg.drewN ?_ _ | with_reducible refine Chg.alloc ?_ _ | with_reducible refine Chg.putRow ?_ _ _ _ (.inr ?_) | with_reducible refine Chg.setCell ?_ _ _ _ (.inr ?_)  | (show _ ≤ _; first | exact Nat.le_refl _ | omega | (simp; done))))) (by simp [*]) (by simp [*]) (by simp [*]) fun w1 C1 rE rM rR => ?_
    have oE := old rE
    have oM := old rM
    have oR := old rR
    refine (dgood_at x _ g1 w1).mono ?_
    rintro e w3 ⟨rfl, c3⟩
    have rE3 := c3.keep rE (by simp)
    have rM3 := c3.keep rM (by simp)
    have rR3 := c3.keep rR (by simp)
    have C3 := C1.trans c3
    have o3 := ht.keep C3 (by simp)
    clear rE rM rR oE oM oR C1 c3
    have oE3 := old rE3
    have oM3 := old rM3
    have oR3 := old rR3
    go_wp2_with fail
    refine bodyPost_ret (v := .tuple #[.agg (ec enZ), .slice none 0 0, .int .i64 1]) ?_ (by rfl) ?_
    · exact results_en3 (by rfl) _ _ (w.heap.size + 2) enZ (0, 0) (by rfl) (by simp [rR3]; try rfl) _ _ (by rfl) (by rfl)
    exact En3.err _ _ _ (by (repeat' (first | with_reducible exact Chg.refl _ _ | with_reducible assumption | with_reducible refine Chg.drew ?_ | with_reducible refine Chg.drewN ?_ _ | with_reducible refine Chg.alloc ?_ _ | with_reducible refine Chg.putRow ?_ _ _ _ (.inr ?_) | with_reducible refine Chg.setCell ?_ _ _ _ (.inr ?_)  | (show _ ≤ _; first | exact Nat.le_refl _ | omega | (simp; done)))))
  cases g2 : isC c
  · skip
    rw [show askE x c m = ((enZ, []), 1) from by simp [askE, askArg, g2]]
    go_enter Tryz.func90, Tryz.ntmps90
    try dsimp only [List.append]
    go_wp2_with fail
    refine gen_calls3 (w := w) (b1 := w.heap.size) (x1 := .cells (ec (x)) 56 (0, 0)) (b2 := w.heap.size + 1) (x2 := .cells (msc m) 38 (0, 0)) (b3 := w.heap.size + 2) (x3 := .cells (ec (enZ)) 56 (0, 0)) (by (repeat' (first | with_reducible exact Chg.refl _ _ | with_reducible assumption | with_reducible refine Chg.drew ?_ | with_reducible refine Chg.drewN ?_ _ | with_reducible refine Chg.alloc ?_ _ | with_reducible refine Chg.putRow ?_ _ _ _ (.inr ?_) | with_reducible refine Chg.setCell ?_ _ _ _ (.inr ?_)  | (show _ ≤ _; first | exact Nat.le_refl _ | omega | (simp; done))))) (by simp [*]) (by simp [*]) (by simp [*]) fun w1 C1 rE rM rR => ?_
    have oE := old rE
    have oM := old rM
    have oR := old rR
    refine (dgood_at x _ g1 w1).mono ?_
    rintro e w3 ⟨rfl, c3⟩
    have rE3 := c3.keep rE (by simp)
    have rM3 := c3.keep rM (by simp)
    have rR3 := c3.keep rR (by simp)
    have C3 := C1.trans c3
    have o3 := ht.keep C3 (by simp)
    clear rE rM rR oE oM oR C1 c3
    have oE3 := old rE3
    have oM3 := old rM3
    have oR3 := old rR3
    go_wp2_with (go_at_call 143; refine (dcore_at _ _ g2 _).mono ?_; rintro e w' ⟨rfl, rfl⟩)
    refine bodyPost_ret (v := .tuple #[.agg (ec enZ), .slice none 0 0, .int .i64 1]) ?_ (by rfl) ?_
    · exact results_en3 (by rfl) _ _ (w.heap.size + 2) enZ (0, 0) (by rfl) (by simp [rR3]; try rfl) _ _ (by rfl) (by rfl)
    exact En3.err _ _ _ (by (repeat' (first | with_reducible exact Chg.refl _ _ | with_reducible assumption | with_reducible refine Chg.drew ?_ | with_reducible refine Chg.drewN ?_ _ | with_reducible refine Chg.alloc ?_ _ | with_reducible refine Chg.putRow ?_ _ _ _ (.inr ?_) | with_reducible refine Chg.setCell ?_ _ _ _ (.inr ?_)  | (show _ ≤ _; first | exact Nat.le_refl _ | omega | (simp; done)))))
  cases g3 : mg m
  · skip
    rw [show askE x c m = ((enZ, []), 1) from by simp [askE, askArg, g3]]
    go_enter Tryz.func90, Tryz.ntmps90
    try dsimp only [List.append]
    go_wp2_with fail
    refine gen_calls3 (w := w) (b1 := w.heap.size) (x1 := .cells (ec (x)) 56 (0, 0)) (b2 := w.heap.size + 1) (x2 := .cells (msc m) 38 (0, 0)) (b3 := w.heap.size + 2) (x3 := .cells (ec (enZ)) 56 (0, 0)) (by (repeat' (first | with_reducible exact Chg.refl _ _ | with_reducible assumption | with_reducible refine Chg.drew ?_ | with_reducible refine Chg.drewN ?_ _ | with_reducible refine Chg.alloc ?_ _ | with_reducible refine Chg.putRow ?_ _ _ _ (.inr ?_) | with_reducible refine Chg.setCell ?_ _ _ _ (.inr ?_)  | (show _ ≤ _; first | exact Nat.le_refl _ | omega | (simp; done))))) (by simp [*]) (by simp [*]) (by simp [*]) fun w1 C1 rE rM rR => ?_
    have oE := old rE
    have oM := old rM
    have oR := old rR
    refine (dgood_at x _ g1 w1).mono ?_
    rintro e w3 ⟨rfl, c3⟩
    have rE3 := c3.keep rE (by simp)
    have rM3 := c3.keep rM (by simp)
    have rR3 := c3.keep rR (by simp)
    have C3 := C1.trans c3
    have o3 := ht.keep C3 (by simp)
    clear rE rM rR oE oM oR C1 c3
    have oE3 := old rE3
    have oM3 := old rM3
    have oR3 := old rR3
    go_wp2_with ((go_at_call 143; refine (dcore_at _ _ g2 _).mono ?_; rintro e w' ⟨rfl, rfl⟩))
    refine (mgood_at m _ g3 w3 o3).mono ?_
    rintro e w4 ⟨rfl, c4⟩
    have rE4 := c4.keep rE3 (by simp)
    have rM4 := c4.keep rM3 (by simp)
    have rR4 := c4.keep rR3 (by simp)
    have C4 := C3.trans c4
    have o4 := ht.old0.chg C4
    clear rE3 rM3 rR3 oE3 oM3 oR3 C3 c4 o3
    have oE4 := old rE4
    have oM4 := old rM4
    have oR4 := old rR4
    go_wp2_with fail
    refine bodyPost_ret (v := .tuple #[.agg (ec enZ), .slice none 0 0, .int .i64 1]) ?_ (by rfl) ?_
    · exact results_en3 (by rfl) _ _ (w.heap.size + 2) enZ (0, 0) (by rfl) (by simp [rR4]; try rfl) _ _ (by rfl) (by rfl)
    exact En3.err _ _ _ (by (repeat' (first | with_reducible exact Chg.refl _ _ | with_reducible assumption | with_reducible refine Chg.drew ?_ | with_reducible refine Chg.drewN ?_ _ | with_reducible refine Chg.alloc ?_ _ | with_reducible refine Chg.putRow ?_ _ _ _ (.inr ?_) | with_reducible refine Chg.setCell ?_ _ _ _ (.inr ?_)  | (show _ ≤ _; first | exact Nat.le_refl _ | omega | (simp; done)))))
  cases g4 : asksB m.kd
  · skip
    rw [show askE x c m = ((enZ, []), 1) from by simp [askE, askArg, g4]]
    go_enter Tryz.func90, Tryz.ntmps90
    try dsimp only [List.append]
    go_wp2_with fail
    refine gen_calls3 (w := w) (b1 := w.heap.size) (x1 := .cells (ec (x)) 56 (0, 0)) (b2 := w.heap.size + 1) (x2 := .cells (msc m) 38 (0, 0)) (b3 := w.heap.size + 2) (x3 := .cells (ec (enZ)) 56 (0, 0)) (by (repeat' (first | with_reducible exact Chg.refl _ _ | with_reducible assumption | with_reducible refine Chg.drew ?_ | with_reducible refine Chg.drewN ?_ _ | with_reducible refine Chg.alloc ?_ _ | with_reducible refine Chg.putRow ?_ _ _ _ (.inr ?_) | with_reducible refine Chg.setCell ?_ _ _ _ (.inr ?_)  | (show _ ≤ _; first | exact Nat.le_refl _ | omega | (simp; done))))) (by simp [*]) (by simp [*]) (by simp [*]) fun w1 C1 rE rM rR => ?_
    have oE := old rE
    have oM := old rM
    have oR := old rR
    refine (dgood_at x _ g1 w1).mono ?_
    rintro e w3 ⟨rfl, c3⟩
    have rE3 := c3.keep rE (by simp)
    have rM3 := c3.keep rM (by simp)
    have rR3 := c3.keep rR (by simp)
    have C3 := C1.trans c3
    have o3 := ht.keep C3 (by simp)
    clear rE rM rR oE oM oR C1 c3
    have oE3 := old rE3
    have oM3 := old rM3
    have oR3 := old rR3
    go_wp2_with ((go_at_call 143; refine (dcore_at _ _ g2 _).mono ?_; rintro e w' ⟨rfl, rfl⟩))
    refine (mgood_at m _ g3 w3 o3).mono ?_
    rintro e w4 ⟨rfl, c4⟩
    have rE4 := c4.keep rE3 (by simp)
    have rM4 := c4.keep rM3 (by simp)
    have rR4 := c4.keep rR3 (by simp)
    have C4 := C3.trans c4
    have o4 := ht.old0.chg C4
    clear rE3 rM3 rR3 oE3 oM3 oR3 C3 c4 o3
    have oE4 := old rE4
    have oM4 := old rM4
    have oR4 := old rR4
    go_wp2_with (go_at_call 145; refine (asks_at _ _ g4 _).mono ?_; rintro e w' ⟨rfl, rfl⟩)
    refine bodyPost_ret (v := .tuple #[.agg (ec enZ), .slice none 0 0, .int .i64 1]) ?_ (by rfl) ?_
    · exact results_en3 (by rfl) _ _ (w.heap.size + 2) enZ (0, 0) (by rfl) (by simp [rR4]; try rfl) _ _ (by rfl) (by rfl)
    exact En3.err _ _ _ (by (repeat' (first | with_reducible exact Chg.refl _ _ | with_reducible assumption | with_reducible refine Chg.drew ?_ | with_reducible refine Chg.drewN ?_ _ | with_reducible refine Chg.alloc ?_ _ | with_reducible refine Chg.putRow ?_ _ _ _ (.inr ?_) | with_reducible refine Chg.setCell ?_ _ _ _ (.inr ?_)  | (show _ ≤ _; first | exact Nat.le_refl _ | omega | (simp; done)))))
  have ga : askArg x c m = true := by simp [askArg, g1, g2, g3, g4]
  by_cases hb : x.bu = 0
  · have t1 : (x.bu != 0) = false := by simp [hb]
    cases hh : x.he
    · skip
      rw [show askE x c m = ((enZ, []), 16) from by simp [askE, ga, hb, hh]]
      clear ga
      go_enter Tryz.func90, Tryz.ntmps90
      try dsimp only [List.append]
      go_wp2_with fail
      refine gen_calls3 (w := w) (b1 := w.heap.size) (x1 := .cells (ec (x)) 56 (0, 0)) (b2 := w.heap.size + 1) (x2 := .cells (msc m) 38 (0, 0)) (b3 := w.heap.size + 2) (x3 := .cells (ec (enZ)) 56 (0, 0)) (by (repeat' (first | with_reducible exact Chg.refl _ _ | with_reducible assumption | with_reducible refine Chg.drew ?_ | with_reducible refine Chg.drewN ?_ _ | with_reducible refine Chg.alloc ?_ _ | with_reducible refine Chg.putRow ?_ _ _ _ (.inr ?_) | with_reducible refine Chg.setCell ?_ _ _ _ (.inr ?_)  | (show _ ≤ _; first | exact Nat.le_refl _ | omega | (simp; done))))) (by simp [*]) (by simp [*]) (by simp [*]) fun w1 C1 rE rM rR => ?_
      have oE := old rE
      have oM := old rM
      have oR := old rR
      refine (dgood_at x _ g1 w1).mono ?_
      rintro e w3 ⟨rfl, c3⟩
      have rE3 := c3.keep rE (by simp)
      have rM3 := c3.keep rM (by simp)
      have rR3 := c3.keep rR (by simp)
      have C3 := C1.trans c3
      have o3 := ht.keep C3 (by simp)
      clear rE rM rR oE oM oR C1 c3
      have oE3 := old rE3
      have oM3 := old rM3
      have oR3 := old rR3
      go_wp2_with ((go_at_call 143; refine (dcore_at _ _ g2 _).mono ?_; rintro e w' ⟨rfl, rfl⟩))
      refine (mgood_at m _ g3 w3 o3).mono ?_
      rintro e w4 ⟨rfl, c4⟩
      have rE4 := c4.keep rE3 (by simp)
      have rM4 := c4.keep rM3 (by simp)
      have rR4 := c4.keep rR3 (by simp)
      have C4 := C3.trans c4
      have o4 := ht.old0.chg C4
      clear rE3 rM3 rR3 oE3 oM3 oR3 C3 c4 o3
      have oE4 := old rE4
      have oM4 := old rM4
      have oR4 := old rR4
      go_wp2_with (go_at_call 145; refine (asks_at _ _ g4 _).mono ?_; rintro e w' ⟨rfl, rfl⟩)
      refine bodyPost_ret (v := .tuple #[.agg (ec enZ), .slice none 0 0, .int .i64 16]) ?_ (by rfl) ?_
      · exact results_en3 (by rfl) _ _ (w.heap.size + 2) enZ (0, 0) (by rfl) (by simp [rR4]; try rfl) _ _ (by rfl) (by rfl)
      exact En3.err _ _ _ (by (repeat' (first | with_reducible exact Chg.refl _ _ | with_reducible assumption | with_reducible refine Chg.drew ?_ | with_reducible refine Chg.drewN ?_ _ | with_reducible refine Chg.alloc ?_ _ | with_reducible refine Chg.putRow ?_ _ _ _ (.inr ?_) | with_reducible refine Chg.setCell ?_ _ _ _ (.inr ?_)  | (show _ ≤ _; first | exact Nat.le_refl _ | omega | (simp; done)))))
    · rw [show askE x c m = (deedE x c m, 0) from by simp [askE, ga, hb, hh]]
      clear ga hb
      obtain ⟨K, hix, hen, hd⟩ := deed_of x c m g4
      go_enter Tryz.func90, Tryz.ntmps90
      try dsimp only [List.append]
      go_wp2_with fail
      refine gen_calls3 (w := w) (b1 := w.heap.size) (x1 := .cells (ec (x)) 56 (0, 0)) (b2 := w.heap.size + 1) (x2 := .cells (msc m) 38 (0, 0)) (b3 := w.heap.size + 2) (x3 := .cells (ec (enZ)) 56 (0, 0)) (by (repeat' (first | with_reducible exact Chg.refl _ _ | with_reducible assumption | with_reducible refine Chg.drew ?_ | with_reducible refine Chg.drewN ?_ _ | with_reducible refine Chg.alloc ?_ _ | with_reducible refine Chg.putRow ?_ _ _ _ (.inr ?_) | with_reducible refine Chg.setCell ?_ _ _ _ (.inr ?_)  | (show _ ≤ _; first | exact Nat.le_refl _ | omega | (simp; done))))) (by simp [*]) (by simp [*]) (by simp [*]) fun w1 C1 rE rM rR => ?_
      have oE := old rE
      have oM := old rM
      have oR := old rR
      refine (dgood_at x _ g1 w1).mono ?_
      rintro e w3 ⟨rfl, c3⟩
      have rE3 := c3.keep rE (by simp)
      have rM3 := c3.keep rM (by simp)
      have rR3 := c3.keep rR (by simp)
      have C3 := C1.trans c3
      have o3 := ht.keep C3 (by simp)
      clear rE rM rR oE oM oR C1 c3
      have oE3 := old rE3
      have oM3 := old rM3
      have oR3 := old rR3
      go_wp2_with ((go_at_call 143; refine (dcore_at _ _ g2 _).mono ?_; rintro e w' ⟨rfl, rfl⟩))
      refine (mgood_at m _ g3 w3 o3).mono ?_
      rintro e w4 ⟨rfl, c4⟩
      have rE4 := c4.keep rE3 (by simp)
      have rM4 := c4.keep rM3 (by simp)
      have rR4 := c4.keep rR3 (by simp)
      have C4 := C3.trans c4
      have o4 := ht.old0.chg C4
      clear rE3 rM3 rR3 oE3 oM3 oR3 C3 c4 o3
      have oE4 := old rE4
      have oM4 := old rM4
      have oR4 := old rR4
      go_wp2_with (go_at_call 145; refine (asks_at _ _ g4 _).mono ?_; rintro e w' ⟨rfl, rfl⟩)
      have HT := Lib.hid ht
      have HC4 := Lib.hid C4
      have O4 := Lib.hid (ht.old0.chg C4)
      clear C4 o4 ht g1 g2 g3 g4 t1 hh
      go_region_with (first
          | (go_at_call 146; refine (ddeeds_any _).mono ?_; rintro e w' ⟨rfl, c5⟩; (have rE5 := c5.keep rE4 (by simp)); (have rR5 := c5.keep rR4 (by simp)); (have rM5 := c5.keep rM4 (by simp)); (have o5 : Old _ 0 := Old.chg (b := 0) (by first | exact O4.out | (show (0 : Nat) < _; exact O4.out.lt)) c5); (have z5 := c5.size))
          | (refine Calls.mono (hd _ ?_) ?_; exact o5; rintro e w' ⟨A2, n2, rfl, hs2, hA2, c2⟩; (have hA3 : ∀ a, A2 = some a → w4.heap.size ≤ a.block := (fun a ha => Nat.le_trans z5 (hA2 a ha))); (have rR2 := c2.keep rR5 (by simp)); (have rE2 := c2.keep rE5 (by simp))))
      all_goals
        have C4 := HC4.out
        go_wp2_with fail
        refine bodyPost_ret (v := .tuple #[.agg (ec (deedE x c m).1), .slice A2 (deedE x c m).2.length n2, .int .i64 0]) ?_ (by rfl) ?_
        · exact results_en3 (by rfl) _ _ (w.heap.size + 2) (deedE x c m).1 (0, 0) (by rfl) (by simp [rR2, rE2]; done) _ _ (by rfl) (by rfl)
        refine ⟨A2, n2, rfl, ?_, fun a ha => Nat.le_trans C4.size (hA3 a ha), by (repeat' (first | with_reducible exact Chg.refl _ _ | with_reducible assumption | with_reducible refine Chg.drew ?_ | with_reducible refine Chg.drewN ?_ _ | with_reducible refine Chg.alloc ?_ _ | with_reducible refine Chg.putRow ?_ _ _ _ (.inr ?_) | with_reducible refine Chg.setCell ?_ _ _ _ (.inr ?_)  | with_reducible refine Chg.trans ?_ c2 | with_reducible refine Chg.trans (b := World.drew _) ?_ c2 | with_reducible refine Chg.trans ?_ c5 | with_reducible refine Chg.trans (b := World.drew _) ?_ c5 | (show _ ≤ _; first | exact Nat.le_refl _ | omega | (simp; done))))⟩
        exact hs2.chg (((Chg.refl [w.heap.size, w.heap.size + 2] _).putRow _ _ _ (.inl (by simp))).putRow _ _ _ (.inl (by simp))) (by intro a ha; have := hA3 a ha; have := oR4.lt; have := oE4.lt; simp; omega)
  · have t1 : (x.bu != 0) = true := by simpa using hb
    rw [show askE x c m = ((enZ, []), 15) from by simp [askE, ga, hb]]
    clear ga hb
    go_enter Tryz.func90, Tryz.ntmps90
    try dsimp only [List.append]
    go_wp2_with fail
    refine gen_calls3 (w := w) (b1 := w.heap.size) (x1 := .cells (ec (x)) 56 (0, 0)) (b2 := w.heap.size + 1) (x2 := .cells (msc m) 38 (0, 0)) (b3 := w.heap.size + 2) (x3 := .cells (ec (enZ)) 56 (0, 0)) (by (repeat' (first | with_reducible exact Chg.refl _ _ | with_reducible assumption | with_reducible refine Chg.drew ?_ | with_reducible refine Chg.drewN ?_ _ | with_reducible refine Chg.alloc ?_ _ | with_reducible refine Chg.putRow ?_ _ _ _ (.inr ?_) | with_reducible refine Chg.setCell ?_ _ _ _ (.inr ?_)  | (show _ ≤ _; first | exact Nat.le_refl _ | omega | (simp; done))))) (by simp [*]) (by simp [*]) (by simp [*]) fun w1 C1 rE rM rR => ?_
    have oE := old rE
    have oM := old rM
    have oR := old rR
    refine (dgood_at x _ g1 w1).mono ?_
    rintro e w3 ⟨rfl, c3⟩
    have rE3 := c3.keep rE (by simp)
    have rM3 := c3.keep rM (by simp)
    have rR3 := c3.keep rR (by simp)
    have C3 := C1.trans c3
    have o3 := ht.keep C3 (by simp)
    clear rE rM rR oE oM oR C1 c3
    have oE3 := old rE3
    have oM3 := old rM3
    have oR3 := old rR3
    go_wp2_with ((go_at_call 143; refine (dcore_at _ _ g2 _).mono ?_; rintro e w' ⟨rfl, rfl⟩))
    refine (mgood_at m _ g3 w3 o3).mono ?_
    rintro e w4 ⟨rfl, c4⟩
    have rE4 := c4.keep rE3 (by simp)
    have rM4 := c4.keep rM3 (by simp)
    have rR4 := c4.keep rR3 (by simp)
    have C4 := C3.trans c4
    have o4 := ht.old0.chg C4
    clear rE3 rM3 rR3 oE3 oM3 oR3 C3 c4 o3
    have oE4 := old rE4
    have oM4 := old rM4
    have oR4 := old rR4
    go_wp2_with (go_at_call 145; refine (asks_at _ _ g4 _).mono ?_; rintro e w' ⟨rfl, rfl⟩)
    refine bodyPost_ret (v := .tuple #[.agg (ec enZ), .slice none 0 0, .int .i64 15]) ?_ (by rfl) ?_
    · exact results_en3 (by rfl) _ _ (w.heap.size + 2) enZ (0, 0) (by rfl) (by simp [rR4]; try rfl) _ _ (by rfl) (by rfl)
    exact En3.err _ _ _ (by (repeat' (first | with_reducible exact Chg.refl _ _ | with_reducible assumption | with_reducible refine Chg.drew ?_ | with_reducible refine Chg.drewN ?_ _ | with_reducible refine Chg.alloc ?_ _ | with_reducible refine Chg.putRow ?_ _ _ _ (.inr ?_) | with_reducible refine Chg.setCell ?_ _ _ _ (.inr ?_)  | (show _ ≤ _; first | exact Nat.le_refl _ | omega | (simp; done)))))
end Go.Proofs.YtadeoflkppiflaaGreatDoor
end
