/- BusNone: walked. No condition. -/
import Derived.Test.YtgpmhbkpagfjaaaBwk
namespace Go.Proofs.Ytgpmhbkpagfjaaa
open Go.RowKit
set_option linter.unusedVariables false
set_option maxHeartbeats 1000000

set_option maxRecDepth 100000
attribute [local go_sem ↓] append_appS copy_copS clear_clrS make_mkS slice_slS lookup_lookS mput_mputS del_mdelS cell_row frozen_row heap_drew heap_drewN heap_alloc heap_past heap_setCell heap_putRow heap_setB loadEv storeEv loadBe storeBe loadSp storeSp loadNw storeNw loadLine storeLine evc_kd evc_co evc_li evc_wo evc_va bec_fl bec_li bec_wo bec_va nwC_0 nwC_1 spC_0 spC_1
attribute [local go_sem] rowCell_some rowFrozen_some rowHas_some rowIn_some rowPart_full rowPart_lit rowPut_full rowPut_lit rowSet_some size_putRow size_setB run_loadS run_storeS run_appS run_copS run_clrS run_mkS run_slS run_lookS run_mputS run_mdelS loadW_at storeW_at fit_all fit_le one_int one_bool one_pointer one_slice allOne_list putRow_new ne_size1 ne_size2 ne_size3 ne_size4 wideEv wideBe wideSp wideNw wideLine evc_size evc_one evc_ne evc_lit evc_z fold_evc bec_size bec_one bec_lit bec_ne bec_at bec_in spC_size spC_one nwC_size nwC_one nwC_ne nwC_set0 nwC_set1 nwC_lit bec_set0 bec_set1 bec_set2 bec_set3 spC_set0 spC_set1 spC_lit fold_spC spC_ne fold_nwC fold_bec fold_at vs_size vs_one ic_size ic_get
attribute [local simp ↓] heap_drew heap_drewN heap_alloc heap_past heap_setCell heap_putRow heap_setB
attribute [local simp] rowCell_some rowFrozen_some rowHas_some rowIn_some rowPart_full rowPart_lit rowPut_full rowPut_lit rowSet_some size_putRow size_setB fit_all putRow_new ne_size1 ne_size2 ne_size3 ne_size4 evc_size bec_size spC_size nwC_size vs_size fit_le
theorem bnone14_any (e : Ev) (W : World) : Calls Try.prog 4 #[.agg (evc e)] W fun r w' => r = .returned (.bool true) ∧ Chg [] W w' := by
  obtain ⟨n1, n2⟩ := one_new W (.cells (evc e) 38)
  have N2 := Lib.hid n2
  clear n2
  go_enter Try.func4, Try.ntmps4
  go_upto_region 2 with fail
  generalize W.alloc (.cells (evc e) 38) = w1 at *
  generalize W.heap.size = p at *
  go_wp2_with (first | (go_at_call 11; refine (bdo_nil _ _).mono ?_; rintro r w2 ⟨rfl, c2⟩; have n2 := c2.keep n1 (by simp); have C2 := Lib.hid c2; clear c2) | (go_at_call 12; refine (blines_nil _).mono ?_; rintro r w3 ⟨rfl, rfl⟩) | (go_at_call 10; refine (bkept_nil _).mono ?_; rintro r w4 ⟨rfl, rfl⟩) | (go_at_call 13; refine (bpend_nil _ _).mono ?_; rintro r w5 ⟨rfl, rfl⟩) | (go_at_call 8; refine (wakes_any _).mono ?_; rintro r w6 ⟨rfl, c6⟩; have C6 := Lib.hid c6; clear c6))
  go_ret
  exact ⟨rfl, (N2.out.trans C2.out).trans C6.out⟩
end Go.Proofs.Ytgpmhbkpagfjaaa
