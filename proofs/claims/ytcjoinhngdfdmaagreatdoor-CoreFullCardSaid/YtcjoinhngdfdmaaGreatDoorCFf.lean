/- What a statement of layer 13 needs further: by parts. No condition. -/
import Derived.Test.YtcjoinhngdfdmaaGreatDoorCFa
import Derived.Test.YtcjoinhngdfdmaaGreatDoorCFe
import Derived.Test.YtcjoinhngdfdmaaGreatDoorCNaq
import Derived.Below
import Derived.BigQuiet
import Derived.ChangeKeysEq
import Derived.Deep.MidRow
import Derived.Deep.QuietTactic
import Derived.Deep.RegionHeld3
import Derived.Deep.RegionWith
import Derived.DeepKeys
import Derived.Laws.BitsAllLaws
import Derived.Laws.Entries
import Derived.Laws.LoneSync
import Derived.Laws.StructEq
import Derived.Lib.Hide
import Derived.Lib.SliceRun
import Derived.OpenShut
import Derived.ProofKit
import Derived.Test.YtcjoinhngdfdmaaGreatDoorChecked
import Derived.WalkKit
section
namespace Go.Proofs.YtcjoinhngdfdmaaGreatDoor
open Go.RowKit
set_option linter.unusedVariables false
set_option maxHeartbeats 1000000
attribute [local go_sem ↓] append_appS copy_copS clear_clrS make_mkS slice_slS cell_row frozen_row loadLine storeLine loadMsg storeMsg heap_drew heap_drewN heap_alloc heap_past heap_setCell heap_putRow vs_get msc_kd msc_li msc_di msc_ke
attribute [local go_sem] rowCell_some rowFrozen_some rowHas_some rowIn_some rowPart_full rowPart_lit rowPut_full rowPut_lit rowSet_some size_putRow vs_size vs_one wideLine wideMsg run_loadS run_storeS run_appS run_copS run_clrS run_mkS run_slS loadW_at storeW_at fit_all fit_le one_int one_bool one_pointer one_slice allOne_list putRow_new ne_size1 ne_size2 ne_size3 ne_size4 zero8_length line_eq lit8 msc_size msc_one msc_part msc_in fold_msc
attribute [local simp ↓] heap_drew heap_drewN heap_alloc heap_past heap_setCell heap_putRow
attribute [local simp] rowCell_some rowFrozen_some rowHas_some rowIn_some rowPart_full rowPart_lit rowPut_full rowPut_lit rowSet_some size_putRow vs_size fit_all putRow_new ne_size1 ne_size2 ne_size3 ne_size4 zero8_length msc_size
attribute [local go_sem ↓] ec_he ec_di ec_ow ec_sh ec_bu ec_by ec_wa sc_to
attribute [local go_sem] mi_and mi_or mi_not mi_beq0 mi_bne0 ec_size ec_one ec_part ec_in ec_has ec_setDi ec_setOw ec_setSh ec_setBu ec_setBy ec_setWa ec_setSh0 ec_setWa0 ec_putM sc_size sc_one sc_part sc_in
attribute [local simp] ec_size sc_size ec_setDi ec_setOw ec_setSh ec_setBu ec_setBy ec_setWa ec_setSh0 ec_setWa0 ec_putM
attribute [local go_sem ↓] loadEn storeEn loadSd storeSd en_z0
attribute [local go_sem] wideEn wideSd fold_sc size11 putRow_newB putRow_newC ms5_lit
attribute [local simp] en_z0 putRow_newB putRow_newC fit_le ec_has

/-- An entry, and what is told, in memory of its own. -/
def EnSds (w : World) (r : En × List Sd) : Ending → World → Prop := fun e w' => ∃ A c, e = .returned (.tuple #[.agg (ec r.1), .slice A r.2.length c]) ∧ Sl w' 13 A r.2.length (cat Sd.enc r.2) ∧ (∀ a, A = some a → w.heap.size ≤ a.block) ∧ Chg [] w w'

theorem dtell4_any (s : Mk) (kd li : Int) (di ke : Bool) (w : World) (h0 : Old w 0) : Calls Tryz.prog 115 #[.int .u8 (mi s), .agg #[.int .i64 kd, .int .i64 li, .bool di, .bool ke, .int .u64 0, .int .u64 0, .int .u64 0, .int .u64 0, .int .u64 0, .int .u64 0, .int .u64 0, .int .u64 0]] w (SdsTo w (tellL s (ms4 kd li di ke))) := dtell_any s (ms4 kd li di ke) w h0

theorem downed_any (x : En) (c kd li : Int) (w : World) (h0 : Old w 0) : Calls Tryz.prog 162 #[.agg (ec x), .int .i64 c, .int .i64 kd, .int .i64 li] w (EnSds w (ownedE x c kd li)) := by
  have h8 : ((x.setOw c).setSh 0#8).l.length = 8 := x.h
  go_enter Tryz.func162, Tryz.ntmps162
  try dsimp only [List.append]
  go_wp2_with fail
  refine gen_world2 (w := w) (b1 := w.heap.size) (x1 := .cells (ec ((x.setOw c).setSh 0#8)) 129 (0, 0)) (b2 := w.heap.size + 1) (x2 := .cells (ec (enZ)) 129 (0, 0)) (by (repeat' (first | exact Chg.refl _ _ | assumption | exact Chg.refl [] _ | refine Chg.drew ?_ | refine Chg.drewN ?_ _ | refine Chg.alloc ?_ _ | refine Chg.putRow ?_ _ _ _ (.inr (by first | exact Nat.le_refl _ | omega | simp)) | refine Chg.setCell ?_ _ _ _ (.inr (by first | exact Nat.le_refl _ | omega | simp)) ))) (by simp [*]) (by simp [*]) fun w1 C1 rE rR => ?_
  have oE := old rE
  have oR := old rR
  have o0 := h0.chg C1
  go_region_held3 (fun w' => w'.heap[w.heap.size]? = some (.cells (ec ((x.setOw c).setSh 0#8)) 129 (0, 0))) (first | exact rE | exact c2.keep rE (by simp) | exact c2.keep (by simp [*]) (by simp) | simp [*])
    (first
      | (go_at_call 116; refine (gbit_any _ _).mono ?_; rintro e w' ⟨rfl, rfl⟩)
      | (go_at_call 115; refine (dtell_any _ _ _ (by first | exact o0 | exact o0.chg C1 | (show (0 : Nat) < _; simpa using o0.lt))).mono ?_; rintro e w' ⟨A2, n2, rfl, hs2, hA2, c2⟩; (have hA3 : ∀ a, A2 = some a → w1.heap.size ≤ a.block := (by simpa using hA2)); (first | (have rR2 := c2.keep rR (by simp)) | (have rR2 := c2.keep (x := .cells (ec ((x.setOw c).setSh 0#8)) 129 (0, 0)) (k := w.heap.size + 1) (by simp [rR]) (by simp)))))
  all_goals
    go_wp2_with fail
    refine bodyPost_ret (v := .tuple #[.agg (ec ((x.setOw c).setSh 0#8)), .slice A2 (ownedE x c kd li).2.length n2]) ?_ (by rfl) ?_
    · exact results_en2 (by rfl) _ _ (w.heap.size + 1) _ (0, 0) (by rfl) (by first | exact rR2 | (simp [rR2]; done)) _ (by rfl)
    refine ⟨A2, n2, rfl, ?_, fun a ha => Nat.le_trans C1.size (hA3 a ha), by (repeat' (first | exact Chg.refl _ _ | assumption | exact Chg.refl [] _ | refine Chg.drew ?_ | refine Chg.drewN ?_ _ | refine Chg.alloc ?_ _ | refine Chg.putRow ?_ _ _ _ (.inr (by first | exact Nat.le_refl _ | omega | simp)) | refine Chg.setCell ?_ _ _ _ (.inr (by first | exact Nat.le_refl _ | omega | simp))  | refine Chg.trans ?_ c2))⟩
    first
      | exact hs2
      | exact hs2.chg ((Chg.refl [w.heap.size + 1] _).putRow _ _ _ (.inl (by simp))) (by intro a ha; have := hA3 a ha; have := oR.lt; simp; omega)
      | exact hs2.chg c3 (by simp)
      | exact (hs2.chg c3 (by simp)).chg ((Chg.refl [w.heap.size + 1] _).putRow _ _ _ (.inl (by simp))) (by intro a ha; have := hA3 a ha; have := oR.lt; simp; omega)


theorem dshared_any (x : En) (c li : Int) (w : World) (h0 : Old w 0) : Calls Tryz.prog 161 #[.agg (ec x), .int .i64 c, .int .i64 li] w (EnSds w (sharedE x c li)) := by
  have h8 : (x.setSh (x.sh ||| bitM c)).l.length = 8 := x.h
  go_enter Tryz.func161, Tryz.ntmps161
  try dsimp only [List.append]
  go_wp2_with fail
  refine gen_world2 (w := w) (b1 := w.heap.size) (x1 := .cells (ec (x)) 129 (0, 0)) (b2 := w.heap.size + 1) (x2 := .cells (ec (enZ)) 129 (0, 0)) (by (repeat' (first | exact Chg.refl _ _ | assumption | exact Chg.refl [] _ | refine Chg.drew ?_ | refine Chg.drewN ?_ _ | refine Chg.alloc ?_ _ | refine Chg.putRow ?_ _ _ _ (.inr (by first | exact Nat.le_refl _ | omega | simp)) | refine Chg.setCell ?_ _ _ _ (.inr (by first | exact Nat.le_refl _ | omega | simp)) ))) (by simp [*]) (by simp [*]) fun w1 C1 rE rR => ?_
  have oE := old rE
  have oR := old rR
  have o0 := h0.chg C1
  go_region_with ((go_at_call 116; refine (gbit_any _ _).mono ?_; rintro e w' ⟨rfl, rfl⟩))
  all_goals
    go_wp2_with fail
    refine gen_world2 (w := w) (b1 := w.heap.size) (x1 := .cells (ec (x.setSh (x.sh ||| bitM c))) 129 (0, 0)) (b2 := w.heap.size + 1) (x2 := .cells (ec (enZ)) 129 (0, 0)) (by (repeat' (first | exact Chg.refl _ _ | assumption | exact Chg.refl [] _ | refine Chg.drew ?_ | refine Chg.drewN ?_ _ | refine Chg.alloc ?_ _ | refine Chg.putRow ?_ _ _ _ (.inr (by first | exact Nat.le_refl _ | omega | simp)) | refine Chg.setCell ?_ _ _ _ (.inr (by first | exact Nat.le_refl _ | omega | simp)) ))) (by simp [*]) (by simp [*]) fun w9 C9 rF rS => ?_
    have oF := old rF
    have oS := old rS
    have o9 := h0.chg C9
    go_region_held3 (fun w' => w'.heap[w.heap.size]? = some (.cells (ec (x.setSh (x.sh ||| bitM c))) 129 (0, 0))) (first | exact rF | exact c2.keep rF (by simp) | exact c2.keep (by simp [*]) (by simp) | simp [*])
      (first
        | (go_at_call 116; refine (gbit_any _ _).mono ?_; rintro e w' ⟨rfl, rfl⟩)
        | (go_at_call 115; refine (dtell_any _ _ _ (by first | exact o9 | exact o9.chg C9 | (show (0 : Nat) < _; simpa using o9.lt))).mono ?_; rintro e w' ⟨A2, n2, rfl, hs2, hA2, c2⟩; (have hA3 : ∀ a, A2 = some a → w9.heap.size ≤ a.block := (by simpa using hA2)); (first | (have rS2 := c2.keep rS (by simp)) | (have rS2 := c2.keep (x := .cells (ec (x.setSh (x.sh ||| bitM c))) 129 (0, 0)) (k := w.heap.size + 1) (by simp [rS]) (by simp)))))
    all_goals
      go_wp2_with fail
      refine bodyPost_ret (v := .tuple #[.agg (ec (x.setSh (x.sh ||| bitM c))), .slice A2 (sharedE x c li).2.length n2]) ?_ (by rfl) ?_
      · exact results_en2 (by rfl) _ _ (w.heap.size + 1) _ (0, 0) (by rfl) (by first | exact rS2 | (simp [rS2]; done)) _ (by rfl)
      refine ⟨A2, n2, rfl, ?_, fun a ha => Nat.le_trans C9.size (hA3 a ha), by (repeat' (first | exact Chg.refl _ _ | assumption | exact Chg.refl [] _ | refine Chg.drew ?_ | refine Chg.drewN ?_ _ | refine Chg.alloc ?_ _ | refine Chg.putRow ?_ _ _ _ (.inr (by first | exact Nat.le_refl _ | omega | simp)) | refine Chg.setCell ?_ _ _ _ (.inr (by first | exact Nat.le_refl _ | omega | simp))  | refine Chg.trans ?_ c2))⟩
      first
        | exact hs2
        | exact hs2.chg ((Chg.refl [w.heap.size + 1] _).putRow _ _ _ (.inl (by simp))) (by intro a ha; have := hA3 a ha; have := oS.lt; simp; omega)
        | exact hs2.chg c3 (by simp)
        | exact (hs2.chg c3 (by simp)).chg ((Chg.refl [w.heap.size + 1] _).putRow _ _ _ (.inl (by simp))) (by intro a ha; have := hA3 a ha; have := oS.lt; simp; omega)

theorem dwait_any (x : En) (c : Int) (m : Ms) (o : Mk) (kd : Int) (w : World) (h0 : Old w 0) : Calls Tryz.prog 181 #[.agg (ec x), .int .i64 c, .agg (msc m), .int .u8 (mi o), .int .i64 kd] w (EnSds w (waitE x c m o kd)) := by
  go_enter Tryz.func181, Tryz.ntmps181
  try dsimp only [List.append]
  go_wp2_with fail
  refine gen_world3 (w := w) (b1 := w.heap.size) (x1 := .cells (ec (((x.setBu m.kd).setBy c).setWa o)) 129 (0, 0)) (b2 := w.heap.size + 1) (x2 := .cells (msc m) 50 (0, 0)) (b3 := w.heap.size + 2) (x3 := .cells (ec (enZ)) 129 (0, 0)) (by (repeat' (first | exact Chg.refl _ _ | assumption | exact Chg.refl [] _ | refine Chg.drew ?_ | refine Chg.drewN ?_ _ | refine Chg.alloc ?_ _ | refine Chg.putRow ?_ _ _ _ (.inr (by first | exact Nat.le_refl _ | omega | simp)) | refine Chg.setCell ?_ _ _ _ (.inr (by first | exact Nat.le_refl _ | omega | simp)) ))) (by simp [*]) (by simp [*]) (by simp [*]) fun w1 C1 rE rM rR => ?_
  have oE := old rE
  have oM := old rM
  have oR := old rR
  have o0 := h0.chg C1
  go_region_held3 (fun w' => w'.heap[w.heap.size]? = some (.cells (ec (((x.setBu m.kd).setBy c).setWa o)) 129 (0, 0)) ∧ w'.heap[w.heap.size + 1]? = some (.cells (msc m) 50 (0, 0))) (first | exact ⟨rE, rM⟩ | exact ⟨c2.keep rE (by simp), c2.keep rM (by simp)⟩ | exact ⟨c2.keep (by simp [*]) (by simp), c2.keep (by simp [*]) (by simp)⟩ | simp [*])
    (first
      | (go_at_call 115; refine (dtell4_any _ _ _ _ _ _ (by first | exact o0 | exact o0.chg C1 | (show (0 : Nat) < _; simpa using o0.lt))).mono ?_; rintro e w' ⟨A2, n2, rfl, hs2, hA2, c2⟩; (have hA3 : ∀ a, A2 = some a → w1.heap.size ≤ a.block := (by simpa using hA2)); (first | (have rR2 := c2.keep rR (by simp)) | (have rR2 := c2.keep (x := .cells (ec (((x.setBu m.kd).setBy c).setWa o)) 129 (0, 0)) (k := w.heap.size + 2) (by simp [rR]) (by simp)))))
  all_goals
    go_wp2_with fail
    refine bodyPost_ret (v := .tuple #[.agg (ec (((x.setBu m.kd).setBy c).setWa o)), .slice A2 (waitE x c m o kd).2.length n2]) ?_ (by rfl) ?_
    · exact results_en2 (by rfl) _ _ (w.heap.size + 2) _ (0, 0) (by rfl) (by first | exact rR2 | (simp [rR2]; done)) _ (by rfl)
    refine ⟨A2, n2, rfl, ?_, fun a ha => Nat.le_trans C1.size (hA3 a ha), by (repeat' (first | exact Chg.refl _ _ | assumption | exact Chg.refl [] _ | refine Chg.drew ?_ | refine Chg.drewN ?_ _ | refine Chg.alloc ?_ _ | refine Chg.putRow ?_ _ _ _ (.inr (by first | exact Nat.le_refl _ | omega | simp)) | refine Chg.setCell ?_ _ _ _ (.inr (by first | exact Nat.le_refl _ | omega | simp))  | refine Chg.trans ?_ c2))⟩
    first
      | exact hs2
      | exact hs2.chg ((Chg.refl [w.heap.size + 2] _).putRow _ _ _ (.inl (by simp))) (by intro a ha; have := hA3 a ha; have := oR.lt; simp; omega)
      | exact hs2.chg c3 (by simp)
      | exact (hs2.chg c3 (by simp)).chg ((Chg.refl [w.heap.size + 2] _).putRow _ _ _ (.inl (by simp))) (by intro a ha; have := hA3 a ha; have := oR.lt; simp; omega)
end Go.Proofs.YtcjoinhngdfdmaaGreatDoor
end
section
namespace Go.Proofs.YtcjoinhngdfdmaaGreatDoor
open Go.RowKit
set_option linter.unusedVariables false
set_option maxHeartbeats 1000000
set_option maxRecDepth 100000
attribute [local go_sem ↓] append_appS copy_copS clear_clrS make_mkS slice_slS cell_row frozen_row loadLine storeLine loadMsg storeMsg heap_drew heap_drewN heap_alloc heap_past heap_setCell heap_putRow vs_get msc_kd msc_li msc_di msc_ke
attribute [local go_sem] rowCell_some rowFrozen_some rowHas_some rowIn_some rowPart_full rowPart_lit rowPut_full rowPut_lit rowSet_some size_putRow vs_size vs_one wideLine wideMsg run_loadS run_storeS run_appS run_copS run_clrS run_mkS run_slS loadW_at storeW_at fit_all fit_le one_int one_bool one_pointer one_slice allOne_list putRow_new ne_size1 ne_size2 ne_size3 ne_size4 zero8_length line_eq lit8 msc_size msc_one msc_part msc_in fold_msc
attribute [local simp ↓] heap_drew heap_drewN heap_alloc heap_past heap_setCell heap_putRow
attribute [local simp] rowCell_some rowFrozen_some rowHas_some rowIn_some rowPart_full rowPart_lit rowPut_full rowPut_lit rowSet_some size_putRow vs_size fit_all putRow_new ne_size1 ne_size2 ne_size3 ne_size4 zero8_length msc_size
attribute [local go_sem ↓] ec_he ec_di ec_ow ec_sh ec_bu ec_by ec_wa sc_to
attribute [local go_sem] mi_and mi_or mi_not mi_beq0 mi_bne0 ec_size ec_one ec_part ec_in ec_has ec_setDi ec_setOw ec_setSh ec_setBu ec_setBy ec_setWa ec_setSh0 ec_setWa0 ec_putM sc_size sc_one sc_part sc_in
attribute [local simp] ec_size sc_size ec_setDi ec_setOw ec_setSh ec_setBu ec_setBy ec_setWa ec_setSh0 ec_setWa0 ec_putM
attribute [local go_sem ↓] loadEn storeEn loadSd storeSd en_z0
attribute [local go_sem] wideEn wideSd fold_sc size11 putRow_newB putRow_newC ms5_lit
attribute [local simp] en_z0 putRow_newB putRow_newC fit_le ec_has


/-! ### '==' of entries -/
theorem dcore_at (c : Int) (b : Bool) (h : isC c = b) (w : World) : Calls Tryz.prog 95 #[.int .i64 c] w fun e w' => e = .returned (.bool b) ∧ w = w' := h ▸ dcore_any c w
/-! ### What is good -/
theorem dgoodOwner_any (x : En) (w : World) : Calls Tryz.prog 145 #[.agg (ec x)] w fun e w' => e = .returned (.bool (goodOw x)) ∧ Chg [] w w' := by
  unfold goodOw
  cases t1 : (x.ow == -1)
  · cases t2 : isC x.ow
    all_goals
      go_enter Tryz.func145, Tryz.ntmps145
      try dsimp only [List.append]
      go_wp2_with (go_at_call 95; refine (dcore_at _ _ t2 _).mono ?_; rintro e w' ⟨rfl, rfl⟩)
      go_ret
      exact ⟨by simp, by (repeat' (first | with_reducible exact Chg.refl _ _ | with_reducible assumption | with_reducible refine Chg.drew ?_ | with_reducible refine Chg.drewN ?_ _ | with_reducible refine Chg.alloc ?_ _ | with_reducible refine Chg.putRow ?_ _ _ _ (.inr ?_) | with_reducible refine Chg.setCell ?_ _ _ _ (.inr ?_)  | (show _ ≤ _; first | exact Nat.le_refl _ | omega | (simp; done))))⟩
  · skip
    go_enter Tryz.func145, Tryz.ntmps145
    try dsimp only [List.append]
    go_wp2_with fail
    go_ret
    exact ⟨by simp, by (repeat' (first | with_reducible exact Chg.refl _ _ | with_reducible assumption | with_reducible refine Chg.drew ?_ | with_reducible refine Chg.drewN ?_ _ | with_reducible refine Chg.alloc ?_ _ | with_reducible refine Chg.putRow ?_ _ _ _ (.inr ?_) | with_reducible refine Chg.setCell ?_ _ _ _ (.inr ?_)  | (show _ ≤ _; first | exact Nat.le_refl _ | omega | (simp; done))))⟩
theorem dgoodWait_any (x : En) (w : World) : Calls Tryz.prog 180 #[.agg (ec x)] w fun e w' => e = .returned (.bool (goodWa x)) ∧ Chg [] w w' := by
  unfold goodWa
  cases t2 : isC x.by_
  all_goals
    go_enter Tryz.func180, Tryz.ntmps180
    try dsimp only [List.append]
    go_wp2_with fail
    refine gen_world1 (w := w) (b1 := w.heap.size) (x1 := .cells (ec (x)) 129 (0, 0)) (by (repeat' (first | with_reducible exact Chg.refl _ _ | with_reducible assumption | with_reducible refine Chg.drew ?_ | with_reducible refine Chg.drewN ?_ _ | with_reducible refine Chg.alloc ?_ _ | with_reducible refine Chg.putRow ?_ _ _ _ (.inr ?_) | with_reducible refine Chg.setCell ?_ _ _ _ (.inr ?_)  | (show _ ≤ _; first | exact Nat.le_refl _ | omega | (simp; done))))) (by simp [*]) fun w1 C1 rE => ?_
    have oE := old rE
    have hx : ∀ y : Aft w1.heap.size w1, y.w.heap[w.heap.size]? = some (.cells (ec (x)) 129 (0, 0)) := fun y => (y.block oE.lt).trans rE
    refine wp_region_aft w1.heap.size (by kernel_rfl) (by kernel_rfl) ?_
    repeat (go_big_quiet_step (first
      | (go_at_call 95; exact calls_aft_same (dcore_at _ _ t2 _))
      | (go_at_call 182; exact calls_aftC (Nat.le_refl _) (dholders_any _ _))))
    refine wpQuiet_nil ?_
    rintro _ ⟨y, rfl⟩
    go_wp2_with fail
    go_ret
    exact ⟨by simp, C1.trans (Below.chg y.below (Nat.le_refl _))⟩

theorem dgoodWait_at (x : En) (b : Bool) (h : goodWa x = b) (w : World) : Calls Tryz.prog 180 #[.agg (ec x)] w fun e w' => e = .returned (.bool b) ∧ Chg [] w w' := h ▸ dgoodWait_any x w
theorem dgoodBusy_any (x : En) (w : World) : Calls Tryz.prog 146 #[.agg (ec x)] w fun e w' => e = .returned (.bool (goodBu x)) ∧ Chg [] w w' := by
  by_cases h0 : x.bu = 0
  · have e1 : goodBu x = (x.by_ == 0 && x.wa == 0#8) := by simp [goodBu, h0]
    have t0 : (x.bu == 0) = true := by simp [h0]
    rw [e1]
    clear e1 h0
    cases t1 : (x.by_ == 0)
    all_goals
      go_enter Tryz.func146, Tryz.ntmps146
      try dsimp only [List.append]
      go_wp2_with fail
      go_ret
      exact ⟨by simp, by (repeat' (first | with_reducible exact Chg.refl _ _ | with_reducible assumption | with_reducible refine Chg.drew ?_ | with_reducible refine Chg.drewN ?_ _ | with_reducible refine Chg.alloc ?_ _ | with_reducible refine Chg.putRow ?_ _ _ _ (.inr ?_) | with_reducible refine Chg.setCell ?_ _ _ _ (.inr ?_)  | (show _ ≤ _; first | exact Nat.le_refl _ | omega | (simp; done))))⟩
  have t0 : (x.bu == 0) = false := by simp [h0]
  by_cases h1 : x.bu = 1 ∨ x.bu = 2
  · have e1 : goodBu x = (goodWa x && x.wa != 0#8) := by simp [goodBu, h0, h1]
    rw [e1]
    clear e1 h0
    have h2 : (x.bu == 1) = true ∨ ((x.bu == 1) = false ∧ (x.bu == 2) = true) := by
      rcases h1 with h | h <;> simp [h]
    clear h1
    have rE : (w.alloc (.cells (ec (x)) 129 (0, 0))).heap[w.heap.size]? = some (.cells (ec (x)) 129 (0, 0)) := by simp
    have C1 := (Chg.refl [] w).alloc (.cells (ec (x)) 129 (0, 0))
    rcases h2 with t1 | ⟨t1, t2⟩
    all_goals
      cases t3 : goodWa x
      all_goals
        go_enter Tryz.func146, Tryz.ntmps146
        try dsimp only [List.append]
        go_wp2_with fail
        generalize w.alloc (.cells (ec (x)) 129 (0, 0)) = w1 at rE C1 ⊢
        refine (dgoodWait_at x _ t3 _).mono ?_
        rintro e w3 ⟨rfl, c3⟩
        have rE3 := c3.keep rE (by simp)
        clear rE
        go_wp2_with fail
        go_ret
        exact ⟨by simp, C1.trans c3⟩
  have t1 : (x.bu == 1) = false := by simp; omega
  have t2 : (x.bu == 2) = false := by simp; omega
  by_cases h2 : x.bu = 4 ∨ x.bu = 5
  · have e1 : goodBu x = goodWa x := by simp [goodBu, h0, h1, h2]
    rw [e1]
    clear e1 h0 h1
    have h3 : (x.bu == 4) = true ∨ ((x.bu == 4) = false ∧ (x.bu == 5) = true) := by
      rcases h2 with h | h <;> simp [h]
    clear h2
    rcases h3 with t3 | ⟨t3, t4⟩
    all_goals
      go_enter Tryz.func146, Tryz.ntmps146
      try dsimp only [List.append]
      go_wp2_with (go_at_call 180; refine (dgoodWait_any x _).mono ?_; rintro e w3 ⟨rfl, c3⟩)
      go_ret
      exact ⟨rfl, ((Chg.refl [] w).alloc _).trans c3⟩
  · have e1 : goodBu x = false := by simp [goodBu, h0, h1, h2]
    have t3 : (x.bu == 4) = false := by simp; omega
    have t4 : (x.bu == 5) = false := by simp; omega
    rw [e1]
    clear e1 h0 h1 h2
    go_enter Tryz.func146, Tryz.ntmps146
    try dsimp only [List.append]
    go_wp2_with fail
    go_ret
    exact ⟨rfl, by (repeat' (first | with_reducible exact Chg.refl _ _ | with_reducible assumption | with_reducible refine Chg.drew ?_ | with_reducible refine Chg.drewN ?_ _ | with_reducible refine Chg.alloc ?_ _ | with_reducible refine Chg.putRow ?_ _ _ _ (.inr ?_) | with_reducible refine Chg.setCell ?_ _ _ _ (.inr ?_)  | (show _ ≤ _; first | exact Nat.le_refl _ | omega | (simp; done))))⟩
theorem dgoodOwner_at (x : En) (b : Bool) (h : goodOw x = b) (w : World) : Calls Tryz.prog 145 #[.agg (ec x)] w fun e w' => e = .returned (.bool b) ∧ Chg [] w w' := h ▸ dgoodOwner_any x w
attribute [local go_sem ↓] en_eq
theorem dgood_any (x : En) (w : World) : Calls Tryz.prog 94 #[.agg (ec x)] w fun e w' => e = .returned (.bool (goodE x)) ∧ Chg [] w w' := by
  cases h : x.he
  · have e1 : goodE x = decide (x = enE) := by simp [goodE, h]
    rw [e1]
    clear e1
    go_enter Tryz.func94, Tryz.ntmps94
    try dsimp only [List.append]
    go_wp2_with fail
    refine gen_world1 (w := w) (b1 := w.heap.size) (x1 := .cells (ec (x)) 129 (0, 0)) (by (repeat' (first | with_reducible exact Chg.refl _ _ | with_reducible assumption | with_reducible refine Chg.drew ?_ | with_reducible refine Chg.drewN ?_ _ | with_reducible refine Chg.alloc ?_ _ | with_reducible refine Chg.putRow ?_ _ _ _ (.inr ?_) | with_reducible refine Chg.setCell ?_ _ _ _ (.inr ?_)  | (show _ ≤ _; first | exact Nat.le_refl _ | omega | (simp; done))))) (by simp [*]) fun w1 C1 rE => ?_
    have oE := old rE
    have hx : ∀ y : Aft w1.heap.size w1, y.w.heap[w.heap.size]? = some (.cells (ec (x)) 129 (0, 0)) := fun y => (y.block oE.lt).trans rE
    refine wp_region_aft w1.heap.size (by kernel_rfl) (by kernel_rfl) ?_
    repeat (go_big_quiet_step (first
      | (go_at_call 73; exact calls_aftC (Nat.le_refl _) (dempty_any _))))
    refine wpQuiet_nil ?_
    rintro _ ⟨y, rfl⟩
    go_wp2_with fail
    go_ret
    exact ⟨rfl, C1.trans (Below.chg y.below (Nat.le_refl _))⟩
  · have e1 : goodE x = (goodOw x && goodBu x) := by simp [goodE, h]
    rw [e1]
    clear e1
    have rE : (w.alloc (.cells (ec (x)) 129 (0, 0))).heap[w.heap.size]? = some (.cells (ec (x)) 129 (0, 0)) := by simp
    have C1 := (Chg.refl [] w).alloc (.cells (ec (x)) 129 (0, 0))
    cases t1 : goodOw x
    all_goals
      go_enter Tryz.func94, Tryz.ntmps94
      try dsimp only [List.append]
      go_wp2_with fail
      generalize w.alloc (.cells (ec (x)) 129 (0, 0)) = w1 at rE C1 ⊢
      refine (dgoodOwner_at x _ t1 _).mono ?_
      rintro e w3 ⟨rfl, c3⟩
      have rE3 := c3.keep rE (by simp)
      have C3 := C1.trans c3
      clear rE C1 c3
      go_wp2_with (go_at_call 146; refine (dgoodBusy_any x _).mono ?_; rintro e w4 ⟨rfl, c4⟩)
      go_ret
      first
        | exact ⟨by simp, C3.trans c4⟩
        | exact ⟨by simp, C3⟩
theorem dgood_at (x : En) (b : Bool) (h : goodE x = b) (w : World) : Calls Tryz.prog 94 #[.agg (ec x)] w fun e w' => e = .returned (.bool b) ∧ Chg [] w w' := h ▸ dgood_any x w
end Go.Proofs.YtcjoinhngdfdmaaGreatDoor
end
