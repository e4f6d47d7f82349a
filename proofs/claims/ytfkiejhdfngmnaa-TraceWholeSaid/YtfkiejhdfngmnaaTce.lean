/- The layer's calls on three events: walked. No condition. -/
import Derived.Test.YtfkiejhdfngmnaaTcd
import Derived.Test.YtfkiejhdfngmnaaChecked
import Derived.Laws.LoneSync
import Derived.Lib.SliceRun
import Derived.Deep.RegionHeld3
import Derived.Deep.RegionWith
import Derived.Laws.StructEq
import Derived.ChangeKeysEq
import Derived.BigQuiet
import Derived.BigRegion
import Derived.Deep.QuietTactic
import Derived.WalkKit
import Derived.Deep.Cut
import Derived.Deep.CutBlock
import Derived.Deep.CutRange
import Derived.Deep.DeepCutAuto
import Derived.Deep.RegionLaw
namespace Go.Proofs.Ytfkiejhdfngmnaa
open Go.RowKit
set_option linter.unusedVariables false
set_option maxHeartbeats 1000000

set_option maxRecDepth 100000
attribute [local go_sem ↓] append_appS copy_copS clear_clrS make_mkS cell_row frozen_row heap_drew heap_drewN heap_alloc heap_past heap_setCell heap_putRow loadEv storeEv evc_kd evc_co evc_li evc_wo evc_va
attribute [local go_sem] rowCell_some rowFrozen_some rowHas_some rowIn_some rowPart_full rowPart_lit rowPut_full rowPut_lit rowSet_some size_putRow run_loadS run_storeS run_appS run_copS run_clrS run_mkS loadW_at storeW_at fit_all fit_le one_int one_bool one_pointer one_slice allOne_list putRow_new ne_size1 ne_size2 ne_size3 ne_size4 wideEv evc_size evc_one evc_ne evc_lit evc_z evc_set0 evc_set1 evc_set2 evc_set3 evc_set4 evZ_kd evZ_co evZ_li evZ_wo evZ_va fold_evc
attribute [local simp ↓] heap_drew heap_drewN heap_alloc heap_past heap_setCell heap_putRow
attribute [local simp] rowCell_some rowFrozen_some rowHas_some rowIn_some rowPart_full rowPart_lit rowPut_full rowPut_lit rowSet_some size_putRow fit_all putRow_new ne_size1 ne_size2 ne_size3 ne_size4 evc_size fit_le
attribute [local go_sem ↓] ev_eqIn
theorem wp_value {P : Program} {o : Oper} {a : Act} {w w' : World} {K : Act → World → Prop} {Q : Exit → Act → World → Prop} {v : Value} (h : (execOp a.eval o).run P w = .ok (.value v) w') (hk : K (a.put o.dst v) w') : o.wp P a w K Q := by
  unfold Oper.wp
  rw [h]
  exact hk
/-! ### The layer's calls on three events -/
def wl : List Ev := [⟨8, 1, 0, 0, 5⟩, ⟨11, 0, 0, 0, 0⟩, ⟨3, 0, 2, 3, 7⟩]
theorem wl_cut : cutS wl = ([[⟨8, 1, 0, 0, 5⟩]], [⟨3, 0, 2, 3, 7⟩]) := by decide
theorem wl_tell : tellV 1 wl = [5] := by decide
theorem wl_store : storeV 2 3 wl = [7] := by decide
theorem wl_of : ofE 0 (-1) wl = wl := ofE_all wl
set_option maxHeartbeats 4000000 in
theorem wakes_any (w : World) : Calls Try.prog 5 #[] w fun e w' => e = .returned (.bool true) ∧ Chg [] w w' := by
  have C1 := Lib.hid ((Chg.refl [] w).alloc (.cells (cat Ev.enc wl).toArray 29))
  have hb1 : (w.alloc (.cells (cat Ev.enc wl).toArray 29)).heap[w.heap.size]? = some (.cells (cat Ev.enc wl).toArray 29 (0, 0)) := (MapKept.heap_alloc w _).1
  have HS := Lib.hid (show Sl (w.alloc (.cells (cat Ev.enc wl).toArray 29)) 5 (some ⟨w.heap.size, 0, none⟩) 3 (cat Ev.enc wl) from ⟨rfl, .inr ⟨w.heap.size, 0, _, _, (0, 0), rfl, hb1, rfl⟩⟩)
  clear hb1
  go_enter Try.func5, Try.ntmps5
  try dsimp only [List.append]
  go_upto_region 1 with fail
  go_step
  iterate 8 (first | go_values | go_skip | go_guarded | go_step)
  go_at_K
  go_step
  go_step
  refine wp_value (v := .slice (some ⟨w.heap.size, 0, none⟩) 3 3) (w' := w.alloc (.cells (cat Ev.enc wl).toArray 29)) (by kernel_rfl) ?_
  go_at_K
  generalize (w.alloc (.cells (cat Ev.enc wl).toArray 29)) = w1 at C1 HS ⊢
  go_wp2_with fail
  refine (cut_any wl w1 HS.out rfl (by omega)).mono ?_
  rintro e w2 ⟨bo, cp, s, fs, rfl, hm⟩
  rw [wl_cut] at hm
  have HM := Lib.hid hm
  obtain ⟨r, ho, _⟩ := hm.out
  obtain ⟨r0, h00, h01, h02, _⟩ := hm.parts 0 _ rfl
  obtain ⟨bl, A1, c1, h10, _, _⟩ := hm.last
  have hat0 : (sq re fs r)[0]? = some (.slice r0.A 1 r0.c) := by have := sq_re_at (r := r) h00; rwa [h01] at this
  have hat1 : (sq re fs r)[1]? = some (.slice A1 1 c1) := sq_re_at (r := r) h10
  have hcl : (cutL wl).length = 2 := by unfold cutL; rw [wl_cut]; rfl
  have C2 := Lib.hid (C1.out.trans hm.chg)
  have HS2 := Lib.hid (HS.out.chg hm.chg (by simp))
  clear h00 h01 h02 h10 hm HM
  rw [hcl]
  have hsl := HS2.out
  go_wp2_with (first
    | (go_at_call 9; refine (tells_any wl 1 _ HS2.out rfl (by omega)).mono ?_; rintro e w3 ⟨A3, c3, rfl, s3, k3⟩; rw [wl_tell] at s3 ⊢; have C3 := Lib.hid (C2.out.trans k3); have HS3 := Lib.hid (HS2.out.chg k3 (by simp)); have K3 := (Chg.refl [] w3).alloc (.cells #[.int .u64 5] 27); have T3 := Lib.hid (s3.chg K3 (by simp)); have L3 := Lib.hid (show Sl (w3.alloc (.cells #[.int .u64 5] 27)) 1 (some ⟨w3.heap.size, 0, none⟩) 1 (cat ue [5]) from one_at (C := #[.int .u64 5]) (f := (0, 0)) (T := 27) ue_len rfl (MapKept.heap_alloc w3 _).1); have D3 := Lib.hid (C3.out.trans K3); have HS4 := Lib.hid (HS3.out.chg K3 (by simp)); clear s3 k3 K3 HS3 C3)
    | (go_at_call 12; refine (stores_any wl 2 3 _ HS5.out rfl (by omega)).mono ?_; rintro e w6 ⟨A6, c6, rfl, s6, k6⟩; rw [wl_store] at s6 ⊢; have C6 := Lib.hid (D4.out.trans k6); have HS6 := Lib.hid (HS5.out.chg k6 (by simp)); have K6 := (Chg.refl [] w6).alloc (.cells #[.int .u64 7] 27); have T6 := Lib.hid (s6.chg K6 (by simp)); have L6 := Lib.hid (show Sl (w6.alloc (.cells #[.int .u64 7] 27)) 1 (some ⟨w6.heap.size, 0, none⟩) 1 (cat ue [7]) from one_at (C := #[.int .u64 7]) (f := (0, 0)) (T := 27) ue_len rfl (MapKept.heap_alloc w6 _).1); have D6 := Lib.hid (C6.out.trans K6); have HS7 := Lib.hid (HS6.out.chg K6 (by simp)); clear s6 k6 K6 HS6 C6)
    | (go_at_call 7; refine (of_any wl 0 (-1) _ HS8.out rfl (by omega)).mono ?_; rintro e w9 ⟨A9, c9, rfl, s9, k9⟩; rw [wl_of]; have C9 := Lib.hid (D8.out.trans k9); have HS9 := Lib.hid (HS8.out.chg k9 (by simp)); clear s9 k9)
    | (go_at_call 10; refine (same_same (n := 3) wl _ HS9.out HS9.out rfl (by omega)).mono ?_; rintro e w10 ⟨rfl, k10⟩; have C10 := Lib.hid (C9.out.trans k10); clear k10)
    | (go_at_call 8; refine (words_same (n := 1) [5] _ T3.out L3.out rfl (by omega)).mono ?_; rintro e w5 ⟨rfl, k5⟩; have D4 := Lib.hid (D3.out.trans k5); have HS5 := Lib.hid (HS4.out.chg k5 (by simp)); clear k5 T3 L3)
    | (go_at_call 8; refine (words_same (n := 1) [7] _ T6.out L6.out rfl (by omega)).mono ?_; rintro e w8 ⟨rfl, k8⟩; have D8 := Lib.hid (D6.out.trans k8); have HS8 := Lib.hid (HS7.out.chg k8 (by simp)); clear k8 T6 L6))
  go_ret
  exact ⟨rfl, C10.out⟩
end Go.Proofs.Ytfkiejhdfngmnaa
