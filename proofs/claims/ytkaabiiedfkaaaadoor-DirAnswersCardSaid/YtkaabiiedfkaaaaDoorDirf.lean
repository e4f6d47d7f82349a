/- Answer, Pushed: walked. No condition. -/
import Derived.Test.YtkaabiiedfkaaaaDoorDire
import Derived.BigQuiet
import Derived.Deep.RegionWith
import Derived.Deep.RegionHeld3
import Derived.Deep.QuietTactic
namespace Go.Proofs.YtkaabiiedfkaaaaDoor
open Go.RowKit
set_option linter.unusedVariables false
set_option maxHeartbeats 1000000
attribute [local go_sem ↓] append_appS copy_copS clear_clrS make_mkS slice_slS cell_row frozen_row loadLine storeLine loadMsg storeMsg heap_drew heap_drewN heap_alloc heap_past heap_setCell heap_putRow vs_get msc_kd msc_li msc_di msc_ke
attribute [local go_sem] rowCell_some rowFrozen_some rowHas_some rowIn_some rowPart_full rowPart_lit rowPut_full rowPut_lit rowSet_some size_putRow vs_size vs_one wideLine wideMsg run_loadS run_storeS run_appS run_copS run_clrS run_mkS run_slS loadW_at storeW_at fit_all fit_le one_int one_bool one_pointer one_slice allOne_list putRow_new ne_size1 ne_size2 ne_size3 ne_size4 zero8_length line_eq lit8 msc_size msc_one msc_part msc_in fold_msc
attribute [local simp ↓] heap_drew heap_drewN heap_alloc heap_past heap_setCell heap_putRow
attribute [local simp] rowCell_some rowFrozen_some rowHas_some rowIn_some rowPart_full rowPart_lit rowPut_full rowPut_lit rowSet_some size_putRow vs_size fit_all putRow_new ne_size1 ne_size2 ne_size3 ne_size4 zero8_length msc_size
attribute [local go_sem ↓] ec_he ec_di ec_ow ec_sh ec_bu ec_by ec_wa sc_to
attribute [local go_sem] mi_and mi_or mi_not mi_beq0 mi_bne0 ec_size ec_one ec_part ec_in ec_has ec_setDi ec_setOw ec_setSh ec_setBu ec_setBy ec_setWa ec_setSh0 ec_setWa0 ec_putM sc_size sc_one sc_part sc_in
attribute [local simp] ec_size sc_size ec_setDi ec_setOw ec_setSh ec_setBu ec_setBy ec_setWa ec_setSh0 ec_setWa0 ec_putM
attribute [local go_sem ↓] loadEn storeEn loadSd storeSd en_z0
attribute [local go_sem] wideEn wideSd fold_sc size11 putRow_newB putRow_newC ms5_lit
attribute [local simp] en_z0 putRow_newB putRow_newC fit_le ec_has


theorem danswered_any (x : En) (c : Int) (m : Ms) (w : World) : Calls Tryd.prog 44 #[.agg (ec x), .int .i64 c, .agg (msc m)] w fun e w' => e = .returned (.agg (ec (answeredE x c m))) ∧ Chg [] w w' := by
  cases hk : m.ke
  · rw [show answeredE x c m = ((withoutE (writtenE x m) c).setWa ((withoutE (writtenE x m) c).wa &&& ~~~(bitM c))) from by simp [answeredE, hk]]
    go_enter Tryd.func44, Tryd.ntmps44
    try dsimp only [List.append]
    go_wp2_with fail
    refine gen_calls3 (w := w) (b1 := w.heap.size) (x1 := .cells (ec (x)) 26 (0, 0)) (b2 := w.heap.size + 1) (x2 := .cells (msc m) 28 (0, 0)) (b3 := w.heap.size + 2) (x3 := .cells (ec (enZ)) 26 (0, 0)) (by (repeat' (first | with_reducible exact Chg.refl _ _ | with_reducible assumption | with_reducible refine Chg.drew ?_ | with_reducible refine Chg.drewN ?_ _ | with_reducible refine Chg.alloc ?_ _ | with_reducible refine Chg.putRow ?_ _ _ _ (.inr ?_) | with_reducible refine Chg.setCell ?_ _ _ _ (.inr ?_)  | (show _ ≤ _; first | exact Nat.le_refl _ | omega | (simp; done))))) (by simp [*]) (by simp [*]) (by simp [*]) fun w1 C1 rE rM rR => ?_
    have oE := old rE
    have oM := old rM
    have oR := old rR
    refine (dwritten_any x m w1).mono ?_
    rintro e w3 ⟨rfl, c3⟩
    have rE3 := c3.keep rE (by simp)
    have rM3 := c3.keep rM (by simp)
    have rR3 := c3.keep rR (by simp)
    have C3 := C1.trans c3
    clear rE rM rR oE oM oR C1 c3
    go_wp2_with fail
    refine (dwithout_any _ c w3).mono ?_
    rintro e w4 ⟨rfl, c4⟩
    have rE4 := c4.keep rE3 (by simp)
    have rM4 := c4.keep rM3 (by simp)
    have rR4 := c4.keep rR3 (by simp)
    have C4 := C3.trans c4
    clear rE3 rM3 rR3 C3 c4
    have oE4 := old rE4
    have oM4 := old rM4
    have oR4 := old rR4
    go_wp2_with fail
    go_region_with ((go_at_call 49; refine (gbit_any _ _).mono ?_; rintro e w' ⟨rfl, rfl⟩))
    all_goals
      go_wp2_with fail
      refine bodyPost_ret (v := .agg (ec ((withoutE (writtenE x m) c).setWa ((withoutE (writtenE x m) c).wa &&& ~~~(bitM c))))) ?_ (by rfl) ?_
      · exact results_en1 (by rfl) _ _ (w.heap.size + 2) _ (0, 0) (by rfl) (by simp (maxDischargeDepth := 8) [*]; try rfl)
      exact ⟨rfl, by (repeat' (first | with_reducible exact Chg.refl _ _ | with_reducible assumption | with_reducible refine Chg.drew ?_ | with_reducible refine Chg.drewN ?_ _ | with_reducible refine Chg.alloc ?_ _ | with_reducible refine Chg.putRow ?_ _ _ _ (.inr ?_) | with_reducible refine Chg.setCell ?_ _ _ _ (.inr ?_)  | (show _ ≤ _; first | exact Nat.le_refl _ | omega | (simp; done))))⟩
  · rw [show answeredE x c m = ((withoutE (writtenE x m) c).setWa ((withoutE (writtenE x m) c).wa &&& ~~~(bitM c))).setSh ((withoutE (writtenE x m) c).sh ||| bitM c) from by simp [answeredE, hk]; rfl]
    go_enter Tryd.func44, Tryd.ntmps44
    try dsimp only [List.append]
    go_wp2_with fail
    refine gen_calls3 (w := w) (b1 := w.heap.size) (x1 := .cells (ec (x)) 26 (0, 0)) (b2 := w.heap.size + 1) (x2 := .cells (msc m) 28 (0, 0)) (b3 := w.heap.size + 2) (x3 := .cells (ec (enZ)) 26 (0, 0)) (by (repeat' (first | with_reducible exact Chg.refl _ _ | with_reducible assumption | with_reducible refine Chg.drew ?_ | with_reducible refine Chg.drewN ?_ _ | with_reducible refine Chg.alloc ?_ _ | with_reducible refine Chg.putRow ?_ _ _ _ (.inr ?_) | with_reducible refine Chg.setCell ?_ _ _ _ (.inr ?_)  | (show _ ≤ _; first | exact Nat.le_refl _ | omega | (simp; done))))) (by simp [*]) (by simp [*]) (by simp [*]) fun w1 C1 rE rM rR => ?_
    have oE := old rE
    have oM := old rM
    have oR := old rR
    refine (dwritten_any x m w1).mono ?_
    rintro e w3 ⟨rfl, c3⟩
    have rE3 := c3.keep rE (by simp)
    have rM3 := c3.keep rM (by simp)
    have rR3 := c3.keep rR (by simp)
    have C3 := C1.trans c3
    clear rE rM rR oE oM oR C1 c3
    go_wp2_with fail
    refine (dwithout_any _ c w3).mono ?_
    rintro e w4 ⟨rfl, c4⟩
    have rE4 := c4.keep rE3 (by simp)
    have rM4 := c4.keep rM3 (by simp)
    have rR4 := c4.keep rR3 (by simp)
    have C4 := C3.trans c4
    clear rE3 rM3 rR3 C3 c4
    have oE4 := old rE4
    have oM4 := old rM4
    have oR4 := old rR4
    go_wp2_with fail
    go_region_with ((go_at_call 49; refine (gbit_any _ _).mono ?_; rintro e w' ⟨rfl, rfl⟩))
    all_goals
      go_wp2_with fail
      refine gen_world3 (w := w) (b1 := w.heap.size) (x1 := .cells (ec (((withoutE (writtenE x m) c).setWa ((withoutE (writtenE x m) c).wa &&& ~~~(bitM c))))) 26 (0, 0)) (b2 := w.heap.size + 1) (x2 := .cells (msc m) 28 (0, 0)) (b3 := w.heap.size + 2) (x3 := .cells (ec (enZ)) 26 (0, 0)) (by (repeat' (first | with_reducible exact Chg.refl _ _ | with_reducible assumption | with_reducible refine Chg.drew ?_ | with_reducible refine Chg.drewN ?_ _ | with_reducible refine Chg.alloc ?_ _ | with_reducible refine Chg.putRow ?_ _ _ _ (.inr ?_) | with_reducible refine Chg.setCell ?_ _ _ _ (.inr ?_)  | (show _ ≤ _; first | exact Nat.le_refl _ | omega | (simp; done))))) (by simp (maxDischargeDepth := 8) [*]; try rfl) (by simp (maxDischargeDepth := 8) [*]; try rfl) (by simp (maxDischargeDepth := 8) [*]; try rfl) fun w5 C5 rE5 rM5 rR5 => ?_
      have oE5 := old rE5
      have oM5 := old rM5
      have oR5 := old rR5
      go_region_with ((go_at_call 49; refine (gbit_any _ _).mono ?_; rintro e w' ⟨rfl, rfl⟩))
      all_goals
        go_wp2_with fail
        refine bodyPost_ret (v := .agg (ec (((withoutE (writtenE x m) c).setWa ((withoutE (writtenE x m) c).wa &&& ~~~(bitM c))).setSh ((withoutE (writtenE x m) c).sh ||| bitM c)))) ?_ (by rfl) ?_
        · exact results_en1 (by rfl) _ _ (w.heap.size + 2) _ (0, 0) (by rfl) (by simp (maxDischargeDepth := 8) [*]; try rfl)
        exact ⟨rfl, by (repeat' (first | with_reducible exact Chg.refl _ _ | with_reducible assumption | with_reducible refine Chg.drew ?_ | with_reducible refine Chg.drewN ?_ _ | with_reducible refine Chg.alloc ?_ _ | with_reducible refine Chg.putRow ?_ _ _ _ (.inr ?_) | with_reducible refine Chg.setCell ?_ _ _ _ (.inr ?_)  | (show _ ≤ _; first | exact Nat.le_refl _ | omega | (simp; done))))⟩

theorem dsettled_any (x : En) (li : Int) (w : World) (h0 : Old w 0) : Calls Tryd.prog 45 #[.agg (ec x), .int .i64 li] w (EnSds w (settledE x li)) := by
  by_cases h1 : x.bu = 1
  · have t1 : (x.bu == 1) = true := by simpa using h1
    rw [show settledE x li = sharedE (overE x) x.by_ li by simp [settledE, h1]]
    clear h1
    go_enter Tryd.func45, Tryd.ntmps45
    try dsimp only [List.append]
    go_wp2_with fail
    refine gen_world2 (w := w) (b1 := w.heap.size) (x1 := .cells (ec (x)) 26 (0, 0)) (b2 := w.heap.size + 1) (x2 := .cells (ec (enZ)) 26 (0, 0)) (by (repeat' (first | with_reducible exact Chg.refl _ _ | with_reducible assumption | with_reducible refine Chg.drew ?_ | with_reducible refine Chg.drewN ?_ _ | with_reducible refine Chg.alloc ?_ _ | with_reducible refine Chg.putRow ?_ _ _ _ (.inr ?_) | with_reducible refine Chg.setCell ?_ _ _ _ (.inr ?_)  | (show _ ≤ _; first | exact Nat.le_refl _ | omega | (simp; done))))) (by simp [*]) (by simp [*]) fun w1 C1 rE rR => ?_
    have oE := old rE
    have oR := old rR
    have o0 := h0.chg C1
    go_region_held3 (fun w' => w'.heap[w.heap.size]? = some (.cells (ec (x)) 26 (0, 0))) (first | exact rE | exact c2.keep rE (by simp) | exact c3.keep rE (by simp) | exact c2.keep (by simp [*]) (by simp) | exact c3.keep (by simp [*]) (by simp) | simp [*])
      (first
        | (go_at_call 47; refine (dover_any _ _).mono ?_; rintro e w' ⟨rfl, c3⟩; (have rR3 := c3.keep rR (by simp)); (have o3 := Old.chg (b := 0) (by first | exact o0 | exact o0.chg C1 | (show (0 : Nat) < _; simpa using o0.lt)) c3); (have z3 := c3.size))
        | (go_at_call 61; refine (dshared_any _ _ _ _ ?_).mono ?_; exact o3; rintro e w' ⟨A2, n2, rfl, hs2, hA2, c2⟩; (have hA3 : ∀ a, A2 = some a → w1.heap.size ≤ a.block := (fun a ha => Nat.le_trans z3 (hA2 a ha))); (have rR2 := c2.keep rR3 (by simp))))
    all_goals
      go_wp2_with fail
      refine bodyPost_ret (v := .tuple #[.agg (ec ((sharedE (overE x) x.by_ li).1)), .slice A2 (sharedE (overE x) x.by_ li).2.length n2]) ?_ (by rfl) ?_
      · exact results_en2 (by rfl) _ _ (w.heap.size + 1) _ (0, 0) (by rfl) (by first | exact rR2 | (simp [rR2]; done)) _ (by rfl)
      refine ⟨A2, n2, rfl, ?_, fun a ha => Nat.le_trans C1.size (hA3 a ha), by (repeat' (first | with_reducible exact Chg.refl _ _ | with_reducible assumption | with_reducible refine Chg.drew ?_ | with_reducible refine Chg.drewN ?_ _ | with_reducible refine Chg.alloc ?_ _ | with_reducible refine Chg.putRow ?_ _ _ _ (.inr ?_) | with_reducible refine Chg.setCell ?_ _ _ _ (.inr ?_)  | with_reducible refine Chg.trans ?_ c2 | with_reducible refine Chg.trans (b := World.drew _) ?_ c2 | with_reducible refine Chg.trans ?_ c3 | with_reducible refine Chg.trans (b := World.drew _) ?_ c3 | (show _ ≤ _; first | exact Nat.le_refl _ | omega | (simp; done))))⟩
      first
        | exact hs2
        | exact hs2.chg ((Chg.refl [w.heap.size + 1] _).putRow _ _ _ (.inl (by simp))) (by intro a ha; have := hA3 a ha; have := oR.lt; simp; omega)
        | exact hs2.chg c3 (by simp)
        | exact (hs2.chg c3 (by simp)).chg ((Chg.refl [w.heap.size + 1] _).putRow _ _ _ (.inl (by simp))) (by intro a ha; have := hA3 a ha; have := oR.lt; simp; omega)
  have t1 : (x.bu == 1) = false := by simpa using h1
  by_cases h2 : x.bu = 2
  · have t2 : (x.bu == 2) = true := by simpa using h2
    rw [show settledE x li = ownedE (overE x) x.by_ 10 li by simp [settledE, h2]]
    clear h1 h2
    go_enter Tryd.func45, Tryd.ntmps45
    try dsimp only [List.append]
    go_wp2_with fail
    refine gen_world2 (w := w) (b1 := w.heap.size) (x1 := .cells (ec (x)) 26 (0, 0)) (b2 := w.heap.size + 1) (x2 := .cells (ec (enZ)) 26 (0, 0)) (by (repeat' (first | with_reducible exact Chg.refl _ _ | with_reducible assumption | with_reducible refine Chg.drew ?_ | with_reducible refine Chg.drewN ?_ _ | with_reducible refine Chg.alloc ?_ _ | with_reducible refine Chg.putRow ?_ _ _ _ (.inr ?_) | with_reducible refine Chg.setCell ?_ _ _ _ (.inr ?_)  | (show _ ≤ _; first | exact Nat.le_refl _ | omega | (simp; done))))) (by simp [*]) (by simp [*]) fun w1 C1 rE rR => ?_
    have oE := old rE
    have oR := old rR
    have o0 := h0.chg C1
    go_region_held3 (fun w' => w'.heap[w.heap.size]? = some (.cells (ec (x)) 26 (0, 0))) (first | exact rE | exact c2.keep rE (by simp) | exact c3.keep rE (by simp) | exact c2.keep (by simp [*]) (by simp) | exact c3.keep (by simp [*]) (by simp) | simp [*])
      (first
        | (go_at_call 47; refine (dover_any _ _).mono ?_; rintro e w' ⟨rfl, c3⟩; (have rR3 := c3.keep rR (by simp)); (have o3 := Old.chg (b := 0) (by first | exact o0 | exact o0.chg C1 | (show (0 : Nat) < _; simpa using o0.lt)) c3); (have z3 := c3.size))
        | (go_at_call 62; refine (downed_any _ _ _ _ _ ?_).mono ?_; exact o3; rintro e w' ⟨A2, n2, rfl, hs2, hA2, c2⟩; (have hA3 : ∀ a, A2 = some a → w1.heap.size ≤ a.block := (fun a ha => Nat.le_trans z3 (hA2 a ha))); (have rR2 := c2.keep rR3 (by simp))))
    all_goals
      go_wp2_with fail
      refine bodyPost_ret (v := .tuple #[.agg (ec ((ownedE (overE x) x.by_ 10 li).1)), .slice A2 (ownedE (overE x) x.by_ 10 li).2.length n2]) ?_ (by rfl) ?_
      · exact results_en2 (by rfl) _ _ (w.heap.size + 1) _ (0, 0) (by rfl) (by first | exact rR2 | (simp [rR2]; done)) _ (by rfl)
      refine ⟨A2, n2, rfl, ?_, fun a ha => Nat.le_trans C1.size (hA3 a ha), by (repeat' (first | with_reducible exact Chg.refl _ _ | with_reducible assumption | with_reducible refine Chg.drew ?_ | with_reducible refine Chg.drewN ?_ _ | with_reducible refine Chg.alloc ?_ _ | with_reducible refine Chg.putRow ?_ _ _ _ (.inr ?_) | with_reducible refine Chg.setCell ?_ _ _ _ (.inr ?_)  | with_reducible refine Chg.trans ?_ c2 | with_reducible refine Chg.trans (b := World.drew _) ?_ c2 | with_reducible refine Chg.trans ?_ c3 | with_reducible refine Chg.trans (b := World.drew _) ?_ c3 | (show _ ≤ _; first | exact Nat.le_refl _ | omega | (simp; done))))⟩
      first
        | exact hs2
        | exact hs2.chg ((Chg.refl [w.heap.size + 1] _).putRow _ _ _ (.inl (by simp))) (by intro a ha; have := hA3 a ha; have := oR.lt; simp; omega)
        | exact hs2.chg c3 (by simp)
        | exact (hs2.chg c3 (by simp)).chg ((Chg.refl [w.heap.size + 1] _).putRow _ _ _ (.inl (by simp))) (by intro a ha; have := hA3 a ha; have := oR.lt; simp; omega)
  · have t2 : (x.bu == 2) = false := by simpa using h2
    rw [show settledE x li = (x, []) by simp [settledE, h1, h2]]
    clear h1 h2
    go_enter Tryd.func45, Tryd.ntmps45
    try dsimp only [List.append]
    go_wp2_with fail
    refine bodyPost_ret (v := .tuple #[.agg (ec x), .slice none 0 0]) ?_ (by rfl) ?_
    · exact results_en2 (by rfl) _ _ (w.heap.size + 1) x (0, 0) (by rfl) (by simp) _ (by rfl)
    exact ⟨none, 0, rfl, ⟨rfl, .inl rfl⟩, by simp, by (repeat' (first | with_reducible exact Chg.refl _ _ | with_reducible assumption | with_reducible refine Chg.drew ?_ | with_reducible refine Chg.drewN ?_ _ | with_reducible refine Chg.alloc ?_ _ | with_reducible refine Chg.putRow ?_ _ _ _ (.inr ?_) | with_reducible refine Chg.setCell ?_ _ _ _ (.inr ?_)  | (show _ ≤ _; first | exact Nat.le_refl _ | omega | (simp; done))))⟩

theorem danswer_any (x : En) (c : Int) (m : Ms) (w : World) (ht : Tab w) : Calls Tryd.prog 21 #[.agg (ec x), .int .i64 c, .agg (msc m)] w (En3 w (ansE x c m)) := by
  cases g1 : goodE x
  · skip
    rw [show ansE x c m = ((enZ, []), 1) from by simp [ansE, ansArg, g1]]
    go_enter Tryd.func21, Tryd.ntmps21
    try dsimp only [List.append]
    go_wp2_with fail
    refine gen_calls3 (w := w) (b1 := w.heap.size) (x1 := .cells (ec (x)) 26 (0, 0)) (b2 := w.heap.size + 1) (x2 := .cells (msc m) 28 (0, 0)) (b3 := w.heap.size + 2) (x3 := .cells (ec (enZ)) 26 (0, 0)) (by (repeat' (first | with_reducible exact Chg.refl _ _ | with_reducible assumption | with_reducible refine Chg.drew ?_ | with_reducible refine Chg.drewN ?_ _ | with_reducible refine Chg.alloc ?_ _ | with_reducible refine Chg.putRow ?_ _ _ _ (.inr ?_) | with_reducible refine Chg.setCell ?_ _ _ _ (.inr ?_)  | (show _ ≤ _; first | exact Nat.le_refl _ | omega | (simp; done))))) (by simp [*]) (by simp [*]) (by simp [*]) fun w1 C1 rE rM rR => ?_
    have oE := old rE
    have oM := old rM
    have oR := old rR
    refine (dgood_at x _ g1 w1).mono ?_
    rintro e w3 ⟨rfl, c3⟩
    have rE3 := c3.keep rE (by simp)
    have rM3 := c3.keep rM (by simp)
    have rR3 := c3.keep rR (by simp)
    have C3 := C1.trans c3
    have o3 := ht.keep C3 (by simp)
    clear rE rM rR oE oM oR C1 c3
    have oE3 := old rE3
    have oM3 := old rM3
    have oR3 := old rR3
    go_wp2_with fail
    refine bodyPost_ret (v := .tuple #[.agg (ec enZ), .slice none 0 0, .int .i64 1]) ?_ (by rfl) ?_
    · exact results_en3 (by rfl) _ _ (w.heap.size + 2) enZ (0, 0) (by rfl) (by simp [rR3]; try rfl) _ _ (by rfl) (by rfl)
    exact En3.err _ _ _ (by (repeat' (first | with_reducible exact Chg.refl _ _ | with_reducible assumption | with_reducible refine Chg.drew ?_ | with_reducible refine Chg.drewN ?_ _ | with_reducible refine Chg.alloc ?_ _ | with_reducible refine Chg.putRow ?_ _ _ _ (.inr ?_) | with_reducible refine Chg.setCell ?_ _ _ _ (.inr ?_)  | (show _ ≤ _; first | exact Nat.le_refl _ | omega | (simp; done)))))
  cases g2 : isC c
  · skip
    rw [show ansE x c m = ((enZ, []), 1) from by simp [ansE, ansArg, g2]]
    go_enter Tryd.func21, Tryd.ntmps21
    try dsimp only [List.append]
    go_wp2_with fail
    refine gen_calls3 (w := w) (b1 := w.heap.size) (x1 := .cells (ec (x)) 26 (0, 0)) (b2 := w.heap.size + 1) (x2 := .cells (msc m) 28 (0, 0)) (b3 := w.heap.size + 2) (x3 := .cells (ec (enZ)) 26 (0, 0)) (by (repeat' (first | with_reducible exact Chg.refl _ _ | with_reducible assumption | with_reducible refine Chg.drew ?_ | with_reducible refine Chg.drewN ?_ _ | with_reducible refine Chg.alloc ?_ _ | with_reducible refine Chg.putRow ?_ _ _ _ (.inr ?_) | with_reducible refine Chg.setCell ?_ _ _ _ (.inr ?_)  | (show _ ≤ _; first | exact Nat.le_refl _ | omega | (simp; done))))) (by simp [*]) (by simp [*]) (by simp [*]) fun w1 C1 rE rM rR => ?_
    have oE := old rE
    have oM := old rM
    have oR := old rR
    refine (dgood_at x _ g1 w1).mono ?_
    rintro e w3 ⟨rfl, c3⟩
    have rE3 := c3.keep rE (by simp)
    have rM3 := c3.keep rM (by simp)
    have rR3 := c3.keep rR (by simp)
    have C3 := C1.trans c3
    have o3 := ht.keep C3 (by simp)
    clear rE rM rR oE oM oR C1 c3
    have oE3 := old rE3
    have oM3 := old rM3
    have oR3 := old rR3
    go_wp2_with (go_at_call 28; refine (dcore_at _ _ g2 _).mono ?_; rintro e w' ⟨rfl, rfl⟩)
    refine bodyPost_ret (v := .tuple #[.agg (ec enZ), .slice none 0 0, .int .i64 1]) ?_ (by rfl) ?_
    · exact results_en3 (by rfl) _ _ (w.heap.size + 2) enZ (0, 0) (by rfl) (by simp [rR3]; try rfl) _ _ (by rfl) (by rfl)
    exact En3.err _ _ _ (by (repeat' (first | with_reducible exact Chg.refl _ _ | with_reducible assumption | with_reducible refine Chg.drew ?_ | with_reducible refine Chg.drewN ?_ _ | with_reducible refine Chg.alloc ?_ _ | with_reducible refine Chg.putRow ?_ _ _ _ (.inr ?_) | with_reducible refine Chg.setCell ?_ _ _ _ (.inr ?_)  | (show _ ≤ _; first | exact Nat.le_refl _ | omega | (simp; done)))))
  cases g3 : mg m
  · skip
    rw [show ansE x c m = ((enZ, []), 1) from by simp [ansE, ansArg, g3]]
    go_enter Tryd.func21, Tryd.ntmps21
    try dsimp only [List.append]
    go_wp2_with fail
    refine gen_calls3 (w := w) (b1 := w.heap.size) (x1 := .cells (ec (x)) 26 (0, 0)) (b2 := w.heap.size + 1) (x2 := .cells (msc m) 28 (0, 0)) (b3 := w.heap.size + 2) (x3 := .cells (ec (enZ)) 26 (0, 0)) (by (repeat' (first | with_reducible exact Chg.refl _ _ | with_reducible assumption | with_reducible refine Chg.drew ?_ | with_reducible refine Chg.drewN ?_ _ | with_reducible refine Chg.alloc ?_ _ | with_reducible refine Chg.putRow ?_ _ _ _ (.inr ?_) | with_reducible refine Chg.setCell ?_ _ _ _ (.inr ?_)  | (show _ ≤ _; first | exact Nat.le_refl _ | omega | (simp; done))))) (by simp [*]) (by simp [*]) (by simp [*]) fun w1 C1 rE rM rR => ?_
    have oE := old rE
    have oM := old rM
    have oR := old rR
    refine (dgood_at x _ g1 w1).mono ?_
    rintro e w3 ⟨rfl, c3⟩
    have rE3 := c3.keep rE (by simp)
    have rM3 := c3.keep rM (by simp)
    have rR3 := c3.keep rR (by simp)
    have C3 := C1.trans c3
    have o3 := ht.keep C3 (by simp)
    clear rE rM rR oE oM oR C1 c3
    have oE3 := old rE3
    have oM3 := old rM3
    have oR3 := old rR3
    go_wp2_with ((go_at_call 28; refine (dcore_at _ _ g2 _).mono ?_; rintro e w' ⟨rfl, rfl⟩))
    refine (mgood_at m _ g3 w3 o3).mono ?_
    rintro e w4 ⟨rfl, c4⟩
    have rE4 := c4.keep rE3 (by simp)
    have rM4 := c4.keep rM3 (by simp)
    have rR4 := c4.keep rR3 (by simp)
    have C4 := C3.trans c4
    have o4 := ht.old.chg C4
    clear rE3 rM3 rR3 oE3 oM3 oR3 C3 c4 o3
    have oE4 := old rE4
    have oM4 := old rM4
    have oR4 := old rR4
    go_wp2_with fail
    refine bodyPost_ret (v := .tuple #[.agg (ec enZ), .slice none 0 0, .int .i64 1]) ?_ (by rfl) ?_
    · exact results_en3 (by rfl) _ _ (w.heap.size + 2) enZ (0, 0) (by rfl) (by simp [rR4]; try rfl) _ _ (by rfl) (by rfl)
    exact En3.err _ _ _ (by (repeat' (first | with_reducible exact Chg.refl _ _ | with_reducible assumption | with_reducible refine Chg.drew ?_ | with_reducible refine Chg.drewN ?_ _ | with_reducible refine Chg.alloc ?_ _ | with_reducible refine Chg.putRow ?_ _ _ _ (.inr ?_) | with_reducible refine Chg.setCell ?_ _ _ _ (.inr ?_)  | (show _ ≤ _; first | exact Nat.le_refl _ | omega | (simp; done)))))
  cases g4 : answersB m.kd
  · skip
    rw [show ansE x c m = ((enZ, []), 1) from by simp [ansE, ansArg, g4]]
    go_enter Tryd.func21, Tryd.ntmps21
    try dsimp only [List.append]
    go_wp2_with fail
    refine gen_calls3 (w := w) (b1 := w.heap.size) (x1 := .cells (ec (x)) 26 (0, 0)) (b2 := w.heap.size + 1) (x2 := .cells (msc m) 28 (0, 0)) (b3 := w.heap.size + 2) (x3 := .cells (ec (enZ)) 26 (0, 0)) (by (repeat' (first | with_reducible exact Chg.refl _ _ | with_reducible assumption | with_reducible refine Chg.drew ?_ | with_reducible refine Chg.drewN ?_ _ | with_reducible refine Chg.alloc ?_ _ | with_reducible refine Chg.putRow ?_ _ _ _ (.inr ?_) | with_reducible refine Chg.setCell ?_ _ _ _ (.inr ?_)  | (show _ ≤ _; first | exact Nat.le_refl _ | omega | (simp; done))))) (by simp [*]) (by simp [*]) (by simp [*]) fun w1 C1 rE rM rR => ?_
    have oE := old rE
    have oM := old rM
    have oR := old rR
    refine (dgood_at x _ g1 w1).mono ?_
    rintro e w3 ⟨rfl, c3⟩
    have rE3 := c3.keep rE (by simp)
    have rM3 := c3.keep rM (by simp)
    have rR3 := c3.keep rR (by simp)
    have C3 := C1.trans c3
    have o3 := ht.keep C3 (by simp)
    clear rE rM rR oE oM oR C1 c3
    have oE3 := old rE3
    have oM3 := old rM3
    have oR3 := old rR3
    go_wp2_with ((go_at_call 28; refine (dcore_at _ _ g2 _).mono ?_; rintro e w' ⟨rfl, rfl⟩))
    refine (mgood_at m _ g3 w3 o3).mono ?_
    rintro e w4 ⟨rfl, c4⟩
    have rE4 := c4.keep rE3 (by simp)
    have rM4 := c4.keep rM3 (by simp)
    have rR4 := c4.keep rR3 (by simp)
    have C4 := C3.trans c4
    have o4 := ht.old.chg C4
    clear rE3 rM3 rR3 oE3 oM3 oR3 C3 c4 o3
    have oE4 := old rE4
    have oM4 := old rM4
    have oR4 := old rR4
    go_wp2_with (go_at_call 42; refine (answers_at _ _ g4 _).mono ?_; rintro e w' ⟨rfl, rfl⟩)
    refine bodyPost_ret (v := .tuple #[.agg (ec enZ), .slice none 0 0, .int .i64 1]) ?_ (by rfl) ?_
    · exact results_en3 (by rfl) _ _ (w.heap.size + 2) enZ (0, 0) (by rfl) (by simp [rR4]; try rfl) _ _ (by rfl) (by rfl)
    exact En3.err _ _ _ (by (repeat' (first | with_reducible exact Chg.refl _ _ | with_reducible assumption | with_reducible refine Chg.drew ?_ | with_reducible refine Chg.drewN ?_ _ | with_reducible refine Chg.alloc ?_ _ | with_reducible refine Chg.putRow ?_ _ _ _ (.inr ?_) | with_reducible refine Chg.setCell ?_ _ _ _ (.inr ?_)  | (show _ ≤ _; first | exact Nat.le_refl _ | omega | (simp; done)))))
  have ga : ansArg x c m = true := by simp [ansArg, g1, g2, g3, g4]
  cases hb : hasM x.wa c
  · rw [show ansE x c m = ((enZ, []), 16) from by simp [ansE, ga, hb]]
    clear ga
    go_enter Tryd.func21, Tryd.ntmps21
    try dsimp only [List.append]
    go_wp2_with fail
    refine gen_calls3 (w := w) (b1 := w.heap.size) (x1 := .cells (ec (x)) 26 (0, 0)) (b2 := w.heap.size + 1) (x2 := .cells (msc m) 28 (0, 0)) (b3 := w.heap.size + 2) (x3 := .cells (ec (enZ)) 26 (0, 0)) (by (repeat' (first | with_reducible exact Chg.refl _ _ | with_reducible assumption | with_reducible refine Chg.drew ?_ | with_reducible refine Chg.drewN ?_ _ | with_reducible refine Chg.alloc ?_ _ | with_reducible refine Chg.putRow ?_ _ _ _ (.inr ?_) | with_reducible refine Chg.setCell ?_ _ _ _ (.inr ?_)  | (show _ ≤ _; first | exact Nat.le_refl _ | omega | (simp; done))))) (by simp [*]) (by simp [*]) (by simp [*]) fun w1 C1 rE rM rR => ?_
    have oE := old rE
    have oM := old rM
    have oR := old rR
    refine (dgood_at x _ g1 w1).mono ?_
    rintro e w3 ⟨rfl, c3⟩
    have rE3 := c3.keep rE (by simp)
    have rM3 := c3.keep rM (by simp)
    have rR3 := c3.keep rR (by simp)
    have C3 := C1.trans c3
    have o3 := ht.keep C3 (by simp)
    clear rE rM rR oE oM oR C1 c3
    have oE3 := old rE3
    have oM3 := old rM3
    have oR3 := old rR3
    go_wp2_with ((go_at_call 28; refine (dcore_at _ _ g2 _).mono ?_; rintro e w' ⟨rfl, rfl⟩))
    refine (mgood_at m _ g3 w3 o3).mono ?_
    rintro e w4 ⟨rfl, c4⟩
    have rE4 := c4.keep rE3 (by simp)
    have rM4 := c4.keep rM3 (by simp)
    have rR4 := c4.keep rR3 (by simp)
    have C4 := C3.trans c4
    have o4 := ht.old.chg C4
    clear rE3 rM3 rR3 oE3 oM3 oR3 C3 c4 o3
    have oE4 := old rE4
    have oM4 := old rM4
    have oR4 := old rR4
    go_wp2_with (first | (go_at_call 42; refine (answers_at _ _ g4 _).mono ?_; rintro e w' ⟨rfl, rfl⟩) | (go_at_call 43; refine (ghas_any _ _ _).mono ?_; rintro e w' ⟨rfl, rfl⟩; rw [hb]))
    refine bodyPost_ret (v := .tuple #[.agg (ec enZ), .slice none 0 0, .int .i64 16]) ?_ (by rfl) ?_
    · exact results_en3 (by rfl) _ _ (w.heap.size + 2) enZ (0, 0) (by rfl) (by simp [rR4]; try rfl) _ _ (by rfl) (by rfl)
    exact En3.err _ _ _ (by (repeat' (first | with_reducible exact Chg.refl _ _ | with_reducible assumption | with_reducible refine Chg.drew ?_ | with_reducible refine Chg.drewN ?_ _ | with_reducible refine Chg.alloc ?_ _ | with_reducible refine Chg.putRow ?_ _ _ _ (.inr ?_) | with_reducible refine Chg.setCell ?_ _ _ _ (.inr ?_)  | (show _ ≤ _; first | exact Nat.le_refl _ | omega | (simp; done)))))
  · cases hw : ((answeredE x c m).wa != 0#8)
    · rw [show ansE x c m = (settledE (answeredE x c m) m.li, 0) from by simp [ansE, ga, hb]; intro h; simp [h] at hw]
      clear ga
      go_enter Tryd.func21, Tryd.ntmps21
      try dsimp only [List.append]
      go_wp2_with fail
      refine gen_calls3 (w := w) (b1 := w.heap.size) (x1 := .cells (ec (x)) 26 (0, 0)) (b2 := w.heap.size + 1) (x2 := .cells (msc m) 28 (0, 0)) (b3 := w.heap.size + 2) (x3 := .cells (ec (enZ)) 26 (0, 0)) (by (repeat' (first | with_reducible exact Chg.refl _ _ | with_reducible assumption | with_reducible refine Chg.drew ?_ | with_reducible refine Chg.drewN ?_ _ | with_reducible refine Chg.alloc ?_ _ | with_reducible refine Chg.putRow ?_ _ _ _ (.inr ?_) | with_reducible refine Chg.setCell ?_ _ _ _ (.inr ?_)  | (show _ ≤ _; first | exact Nat.le_refl _ | omega | (simp; done))))) (by simp [*]) (by simp [*]) (by simp [*]) fun w1 C1 rE rM rR => ?_
      have oE := old rE
      have oM := old rM
      have oR := old rR
      refine (dgood_at x _ g1 w1).mono ?_
      rintro e w3 ⟨rfl, c3⟩
      have rE3 := c3.keep rE (by simp)
      have rM3 := c3.keep rM (by simp)
      have rR3 := c3.keep rR (by simp)
      have C3 := C1.trans c3
      have o3 := ht.keep C3 (by simp)
      clear rE rM rR oE oM oR C1 c3
      have oE3 := old rE3
      have oM3 := old rM3
      have oR3 := old rR3
      go_wp2_with ((go_at_call 28; refine (dcore_at _ _ g2 _).mono ?_; rintro e w' ⟨rfl, rfl⟩))
      refine (mgood_at m _ g3 w3 o3).mono ?_
      rintro e w4 ⟨rfl, c4⟩
      have rE4 := c4.keep rE3 (by simp)
      have rM4 := c4.keep rM3 (by simp)
      have rR4 := c4.keep rR3 (by simp)
      have C4 := C3.trans c4
      have o4 := ht.old.chg C4
      clear rE3 rM3 rR3 oE3 oM3 oR3 C3 c4 o3
      have oE4 := old rE4
      have oM4 := old rM4
      have oR4 := old rR4
      go_wp2_with (first | (go_at_call 42; refine (answers_at _ _ g4 _).mono ?_; rintro e w' ⟨rfl, rfl⟩) | (go_at_call 43; refine (ghas_any _ _ _).mono ?_; rintro e w' ⟨rfl, rfl⟩; rw [hb]))
      refine (danswered_any x c m w4).mono ?_
      rintro e w5 ⟨rfl, c5⟩
      have rE5 := c5.keep rE4 (by simp)
      have rM5 := c5.keep rM4 (by simp)
      have rR5 := c5.keep rR4 (by simp)
      have C5 := C4.trans c5
      clear rE4 rM4 rR4 oE4 oM4 oR4 C4 c5 o4
      have oE5 := old rE5
      have oM5 := old rM5
      have oR5 := old rR5
      go_wp2_with fail
      refine gen_calls3 (w := w) (b1 := w.heap.size) (x1 := .cells (ec (answeredE x c m)) 26 (0, 0)) (b2 := w.heap.size + 1) (x2 := .cells (msc m) 28 (0, 0)) (b3 := w.heap.size + 2) (x3 := .cells (ec (enZ)) 26 (0, 0)) (by (repeat' (first | with_reducible exact Chg.refl _ _ | with_reducible assumption | with_reducible refine Chg.drew ?_ | with_reducible refine Chg.drewN ?_ _ | with_reducible refine Chg.alloc ?_ _ | with_reducible refine Chg.putRow ?_ _ _ _ (.inr ?_) | with_reducible refine Chg.setCell ?_ _ _ _ (.inr ?_)  | (show _ ≤ _; first | exact Nat.le_refl _ | omega | (simp; done))))) (by simp [*]) (by simp [*]) (by simp [*]) fun w6 C6 rE6 rM6 rR6 => ?_
      have oE6 := old rE6
      have oM6 := old rM6
      have oR6 := old rR6
      refine (dsettled_any (answeredE x c m) m.li w6 (ht.old.chg C6)).mono ?_
      rintro e w2 ⟨A2, n2, rfl, hs2, hA3, c2⟩
      have rE2 := c2.keep rE6 (by simp)
      have rR2 := c2.keep rR6 (by simp)
      have oE2 := old rE2
      have oR2 := old rR2
      go_wp2_with fail
      refine bodyPost_ret (v := .tuple #[.agg (ec (settledE (answeredE x c m) m.li).1), .slice A2 (settledE (answeredE x c m) m.li).2.length n2, .int .i64 0]) ?_ (by rfl) ?_
      · exact results_en3 (by rfl) _ _ (w.heap.size + 2) (settledE (answeredE x c m) m.li).1 (0, 0) (by rfl) (by simp [rR2, rE2]; done) _ _ (by rfl) (by rfl)
      refine ⟨A2, n2, rfl, ?_, fun a ha => Nat.le_trans C6.size (hA3 a ha), by (repeat' (first | with_reducible exact Chg.refl _ _ | with_reducible assumption | with_reducible refine Chg.drew ?_ | with_reducible refine Chg.drewN ?_ _ | with_reducible refine Chg.alloc ?_ _ | with_reducible refine Chg.putRow ?_ _ _ _ (.inr ?_) | with_reducible refine Chg.setCell ?_ _ _ _ (.inr ?_)  | with_reducible refine Chg.trans ?_ c2 | with_reducible refine Chg.trans (b := World.drew _) ?_ c2 | (show _ ≤ _; first | exact Nat.le_refl _ | omega | (simp; done))))⟩
      exact hs2.chg (((Chg.refl [w.heap.size, w.heap.size + 2] _).putRow _ _ _ (.inl (by simp))).putRow _ _ _ (.inl (by simp))) (by intro a ha; have := hA3 a ha; have := oR6.lt; have := oE6.lt; simp; omega)
    · rw [show ansE x c m = ((answeredE x c m, []), 0) from by simp [ansE, ga, hb]; intro h; simp [h] at hw]
      clear ga
      go_enter Tryd.func21, Tryd.ntmps21
      try dsimp only [List.append]
      go_wp2_with fail
      refine gen_calls3 (w := w) (b1 := w.heap.size) (x1 := .cells (ec (x)) 26 (0, 0)) (b2 := w.heap.size + 1) (x2 := .cells (msc m) 28 (0, 0)) (b3 := w.heap.size + 2) (x3 := .cells (ec (enZ)) 26 (0, 0)) (by (repeat' (first | with_reducible exact Chg.refl _ _ | with_reducible assumption | with_reducible refine Chg.drew ?_ | with_reducible refine Chg.drewN ?_ _ | with_reducible refine Chg.alloc ?_ _ | with_reducible refine Chg.putRow ?_ _ _ _ (.inr ?_) | with_reducible refine Chg.setCell ?_ _ _ _ (.inr ?_)  | (show _ ≤ _; first | exact Nat.le_refl _ | omega | (simp; done))))) (by simp [*]) (by simp [*]) (by simp [*]) fun w1 C1 rE rM rR => ?_
      have oE := old rE
      have oM := old rM
      have oR := old rR
      refine (dgood_at x _ g1 w1).mono ?_
      rintro e w3 ⟨rfl, c3⟩
      have rE3 := c3.keep rE (by simp)
      have rM3 := c3.keep rM (by simp)
      have rR3 := c3.keep rR (by simp)
      have C3 := C1.trans c3
      have o3 := ht.keep C3 (by simp)
      clear rE rM rR oE oM oR C1 c3
      have oE3 := old rE3
      have oM3 := old rM3
      have oR3 := old rR3
      go_wp2_with ((go_at_call 28; refine (dcore_at _ _ g2 _).mono ?_; rintro e w' ⟨rfl, rfl⟩))
      refine (mgood_at m _ g3 w3 o3).mono ?_
      rintro e w4 ⟨rfl, c4⟩
      have rE4 := c4.keep rE3 (by simp)
      have rM4 := c4.keep rM3 (by simp)
      have rR4 := c4.keep rR3 (by simp)
      have C4 := C3.trans c4
      have o4 := ht.old.chg C4
      clear rE3 rM3 rR3 oE3 oM3 oR3 C3 c4 o3
      have oE4 := old rE4
      have oM4 := old rM4
      have oR4 := old rR4
      go_wp2_with (first | (go_at_call 42; refine (answers_at _ _ g4 _).mono ?_; rintro e w' ⟨rfl, rfl⟩) | (go_at_call 43; refine (ghas_any _ _ _).mono ?_; rintro e w' ⟨rfl, rfl⟩; rw [hb]))
      refine (danswered_any x c m w4).mono ?_
      rintro e w5 ⟨rfl, c5⟩
      have rE5 := c5.keep rE4 (by simp)
      have rM5 := c5.keep rM4 (by simp)
      have rR5 := c5.keep rR4 (by simp)
      have C5 := C4.trans c5
      clear rE4 rM4 rR4 oE4 oM4 oR4 C4 c5 o4
      have oE5 := old rE5
      have oM5 := old rM5
      have oR5 := old rR5
      go_wp2_with fail
      refine bodyPost_ret (v := .tuple #[.agg (ec (answeredE x c m)), .slice none 0 0, .int .i64 0]) ?_ (by rfl) ?_
      · exact results_en3 (by rfl) _ _ (w.heap.size + 2) (answeredE x c m) (0, 0) (by rfl) (by simp (maxDischargeDepth := 8) [*]; try rfl) _ _ (by rfl) (by rfl)
      exact ⟨none, 0, rfl, ⟨rfl, .inl rfl⟩, by simp, by (repeat' (first | with_reducible exact Chg.refl _ _ | with_reducible assumption | with_reducible refine Chg.drew ?_ | with_reducible refine Chg.drewN ?_ _ | with_reducible refine Chg.alloc ?_ _ | with_reducible refine Chg.putRow ?_ _ _ _ (.inr ?_) | with_reducible refine Chg.setCell ?_ _ _ _ (.inr ?_)  | (show _ ≤ _; first | exact Nat.le_refl _ | omega | (simp; done))))⟩

theorem dready_at (x : En) (b : Bool) (h : readyE x = b) (w : World) : Calls Tryd.prog 14 #[.agg (ec x)] w fun e w' => e = .returned (.bool b) ∧ Chg [] w w' := h ▸ dready_any x w
theorem dpushed_any (x : En) (w : World) (h0 : Old w 0) : Calls Tryd.prog 23 #[.agg (ec x)] w (En3 w (pushedE x)) := by
  cases hr : readyE x
  · rw [show pushedE x = ((enZ, []), 16) from by simp [pushedE, hr]]
    go_enter Tryd.func23, Tryd.ntmps23
    try dsimp only [List.append]
    go_wp2_with fail
    refine gen_calls2 (w := w) (b1 := w.heap.size) (x1 := .cells (ec (x)) 26 (0, 0)) (b2 := w.heap.size + 1) (x2 := .cells (ec (enZ)) 26 (0, 0)) (by (repeat' (first | with_reducible exact Chg.refl _ _ | with_reducible assumption | with_reducible refine Chg.drew ?_ | with_reducible refine Chg.drewN ?_ _ | with_reducible refine Chg.alloc ?_ _ | with_reducible refine Chg.putRow ?_ _ _ _ (.inr ?_) | with_reducible refine Chg.setCell ?_ _ _ _ (.inr ?_)  | (show _ ≤ _; first | exact Nat.le_refl _ | omega | (simp; done))))) (by simp [*]) (by simp [*]) fun w1 C1 rE rR => ?_
    have oE := old rE
    have oR := old rR
    refine (dready_at x _ hr w1).mono ?_
    rintro e w3 ⟨rfl, c3⟩
    have rE3 := c3.keep rE (by simp)
    have rR3 := c3.keep rR (by simp)
    have C3 := C1.trans c3
    clear rE rR oE oR C1 c3
    have oE3 := old rE3
    have oR3 := old rR3
    go_wp2_with fail
    refine bodyPost_ret (v := .tuple #[.agg (ec enZ), .slice none 0 0, .int .i64 16]) ?_ (by rfl) ?_
    · exact results_en3 (by rfl) _ _ (w.heap.size + 1) enZ (0, 0) (by rfl) (by simp [rR3]; try rfl) _ _ (by rfl) (by rfl)
    exact En3.err _ _ _ (by (repeat' (first | with_reducible exact Chg.refl _ _ | with_reducible assumption | with_reducible refine Chg.drew ?_ | with_reducible refine Chg.drewN ?_ _ | with_reducible refine Chg.alloc ?_ _ | with_reducible refine Chg.putRow ?_ _ _ _ (.inr ?_) | with_reducible refine Chg.setCell ?_ _ _ _ (.inr ?_)  | (show _ ≤ _; first | exact Nat.le_refl _ | omega | (simp; done)))))
  · rw [show pushedE x = (((overE x).setDi false, tellL (bitM x.by_) (ms4 14 0 false false)), 0) from by simp [pushedE, hr]]
    go_enter Tryd.func23, Tryd.ntmps23
    try dsimp only [List.append]
    go_wp2_with fail
    refine gen_calls2 (w := w) (b1 := w.heap.size) (x1 := .cells (ec (x)) 26 (0, 0)) (b2 := w.heap.size + 1) (x2 := .cells (ec (enZ)) 26 (0, 0)) (by (repeat' (first | with_reducible exact Chg.refl _ _ | with_reducible assumption | with_reducible refine Chg.drew ?_ | with_reducible refine Chg.drewN ?_ _ | with_reducible refine Chg.alloc ?_ _ | with_reducible refine Chg.putRow ?_ _ _ _ (.inr ?_) | with_reducible refine Chg.setCell ?_ _ _ _ (.inr ?_)  | (show _ ≤ _; first | exact Nat.le_refl _ | omega | (simp; done))))) (by simp [*]) (by simp [*]) fun w1 C1 rE rR => ?_
    have oE := old rE
    have oR := old rR
    refine (dready_at x _ hr w1).mono ?_
    rintro e w3 ⟨rfl, c3⟩
    have rE3 := c3.keep rE (by simp)
    have rR3 := c3.keep rR (by simp)
    have C3 := C1.trans c3
    clear rE rR oE oR C1 c3
    have oE3 := old rE3
    have oR3 := old rR3
    go_wp2_with fail
    refine (dover_any x w3).mono ?_
    rintro e w4 ⟨rfl, c4⟩
    have rE4 := c4.keep rE3 (by simp)
    have rR4 := c4.keep rR3 (by simp)
    have C4 := C3.trans c4
    clear rE3 rR3 oE3 oR3 C3 c4
    have oE4 := old rE4
    have oR4 := old rR4
    go_wp2_with fail
    refine gen_world2 (w := w) (b1 := w.heap.size) (x1 := .cells (ec ((overE x).setDi false)) 26 (0, 0)) (b2 := w.heap.size + 1) (x2 := .cells (ec (enZ)) 26 (0, 0)) (by (repeat' (first | with_reducible exact Chg.refl _ _ | with_reducible assumption | with_reducible refine Chg.drew ?_ | with_reducible refine Chg.drewN ?_ _ | with_reducible refine Chg.alloc ?_ _ | with_reducible refine Chg.putRow ?_ _ _ _ (.inr ?_) | with_reducible refine Chg.setCell ?_ _ _ _ (.inr ?_)  | (show _ ≤ _; first | exact Nat.le_refl _ | omega | (simp; done))))) (by simp (maxDischargeDepth := 8) [*]; try rfl) (by simp (maxDischargeDepth := 8) [*]; try rfl) fun w1 C1 rE rR => ?_
    have oE := old rE
    have oR := old rR
    have o0 := h0.chg C1
    go_region_held3 (fun w' => w'.heap[w.heap.size]? = some (.cells (ec ((overE x).setDi false)) 26 (0, 0))) (first | exact rE | exact c2.keep rE (by simp) | exact c2.keep (by simp [*]) (by simp) | simp [*])
      (first
        | (go_at_call 49; refine (gbit_any _ _).mono ?_; rintro e w' ⟨rfl, rfl⟩)
        | (go_at_call 48; refine (dtell4_any _ _ _ _ _ _ (by first | exact o0 | exact o0.chg C1 | (show (0 : Nat) < _; simpa using o0.lt))).mono ?_; rintro e w' ⟨A2, n2, rfl, hs2, hA2, c2⟩; (have hA3 : ∀ a, A2 = some a → w1.heap.size ≤ a.block := (by simpa using hA2)); (first | (have rR2 := c2.keep rR (by simp)) | (have rR2 := c2.keep (x := .cells (ec ((overE x).setDi false)) 26 (0, 0)) (k := w.heap.size + 1) (by simp [rR]) (by simp)))))
    all_goals
      go_wp2_with fail
      refine bodyPost_ret (v := .tuple #[.agg (ec ((overE x).setDi false)), .slice A2 (tellL (bitM x.by_) (ms4 14 0 false false)).length n2, .int .i64 0]) ?_ (by rfl) ?_
      · exact results_en3 (by rfl) _ _ (w.heap.size + 1) _ (0, 0) (by rfl) (by first | exact rR2 | (simp [rR2]; done)) _ _ (by rfl) (by rfl)
      refine ⟨A2, n2, rfl, ?_, fun a ha => Nat.le_trans C1.size (hA3 a ha), by (repeat' (first | with_reducible exact Chg.refl _ _ | with_reducible assumption | with_reducible refine Chg.drew ?_ | with_reducible refine Chg.drewN ?_ _ | with_reducible refine Chg.alloc ?_ _ | with_reducible refine Chg.putRow ?_ _ _ _ (.inr ?_) | with_reducible refine Chg.setCell ?_ _ _ _ (.inr ?_)  | with_reducible refine Chg.trans ?_ c2 | with_reducible refine Chg.trans (b := World.drew _) ?_ c2 | (show _ ≤ _; first | exact Nat.le_refl _ | omega | (simp; done))))⟩
      first
        | exact hs2
        | exact hs2.chg ((Chg.refl [w.heap.size + 1] _).putRow _ _ _ (.inl (by simp))) (by intro a ha; have := hA3 a ha; have := oR.lt; simp; omega)
end Go.Proofs.YtkaabiiedfkaaaaDoor
