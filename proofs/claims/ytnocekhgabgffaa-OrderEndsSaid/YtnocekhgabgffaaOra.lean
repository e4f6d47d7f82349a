/- Numbers that are counted; a trial in memory: walked. No condition. -/
import Derived.Test.YtnocekhgabgffaaBun
import Derived.Test.YtnocekhgabgffaaRbm
namespace Go.Proofs.Ytnocekhgabgffaa
open Go.RowKit
set_option linter.unusedVariables false
set_option maxHeartbeats 1000000

set_option maxRecDepth 100000
attribute [local go_sem ↓] append_appS copy_copS clear_clrS make_mkS slice_slS lookup_lookS mput_mputS del_mdelS cell_row frozen_row heap_drew heap_drewN heap_alloc heap_past heap_setCell heap_putRow heap_setB loadEv storeEv loadBe storeBe loadSp storeSp loadNw storeNw loadLine storeLine evc_kd evc_co evc_li evc_wo evc_va bec_fl bec_li bec_wo bec_va nwC_0 nwC_1 spC_0 spC_1
attribute [local go_sem] rowCell_some rowFrozen_some rowHas_some rowIn_some rowPart_full rowPart_lit rowPut_full rowPut_lit rowSet_some size_putRow size_setB run_loadS run_storeS run_appS run_copS run_clrS run_mkS run_slS run_lookS run_mputS run_mdelS loadW_at storeW_at fit_all fit_le one_int one_bool one_pointer one_slice allOne_list putRow_new ne_size1 ne_size2 ne_size3 ne_size4 wideEv wideBe wideSp wideNw wideLine evc_size evc_one evc_ne evc_lit evc_z fold_evc bec_size bec_one bec_lit bec_ne bec_at bec_in spC_size spC_one nwC_size nwC_one nwC_ne nwC_set0 nwC_set1 nwC_lit bec_set0 bec_set1 bec_set2 bec_set3 spC_set0 spC_set1 spC_lit fold_spC spC_ne fold_nwC fold_bec fold_at vs_size vs_one ic_size ic_get
attribute [local simp ↓] heap_drew heap_drewN heap_alloc heap_past heap_setCell heap_putRow heap_setB
attribute [local simp] rowCell_some rowFrozen_some rowHas_some rowIn_some rowPart_full rowPart_lit rowPut_full rowPut_lit rowSet_some size_putRow size_setB fit_all putRow_new ne_size1 ne_size2 ne_size3 ne_size4 evc_size bec_size spC_size nwC_size vs_size fit_le
/-! ### A number that is counted -/
theorem oadd_any (g o : Nat) (x : Int) (w : World) (c : Array Value) (T : TypeId) (hg : w.heap[g]? = some (.cells c T (0, 0))) (hc : c[o]? = some (.int .i64 x)) (h0 : 0 ≤ x) (h1 : x ≤ 100000) :
    Calls Try.prog 36 #[.pointer (some ⟨g, o, none⟩), .int .i64 1] w fun e w' => e = .returned (.int .i64 (x + 1)) ∧ w' = w.setCell ⟨g, o, none⟩ (.int .i64 (x + 1)) := by
  have hadd := run_call_add (P := Try.prog) Try.func59 (by kernel_rfl) (by kernel_rfl) (by kernel_rfl) .i64 (by kernel_rfl) (a := ⟨g, o, none⟩) (x := x) (y := 1) (s := x + 1) (w := w) (by rw [cell_row, hg, rowCell_some, hc]) (by rw [frozen_row, hg, rowFrozen_some]) (by
    have : IntKind.i64.wrap (x + 1) = x + 1 := IntWalk.i64_in _ (by omega)
    simp [Op.intArith, this])
  clear hg hc h0 h1
  go_enter Try.func36, Try.ntmps36
  go_wp2
  go_ret
  exact ⟨rfl, rfl⟩
theorem oload_any (g o : Nat) (x : Int) (w : World) (c : Array Value) (T : TypeId) (hg : w.heap[g]? = some (.cells c T (0, 0))) (hc : c[o]? = some (.int .i64 x)) :
    Calls Try.prog 25 #[.pointer (some ⟨g, o, none⟩)] w fun e w' => e = .returned (.int .i64 x) ∧ w = w' := by
  have hl := run_call_load (P := Try.prog) Try.func37 (by kernel_rfl) (by kernel_rfl) (by kernel_rfl) .i64 (by kernel_rfl) (a := ⟨g, o, none⟩) (x := x) (w := w) (by rw [cell_row, hg, rowCell_some, hc])
  clear hg hc
  go_enter Try.func25, Try.ntmps25
  go_wp2
  go_ret
  exact ⟨rfl, rfl⟩
/-! ### A trial in memory -/
def trc (P : Option Addr) (a r : Int) : Array Value := #[.pointer P, .int .i64 a, .int .i64 r]
def TrialAt (w : World) (t : Nat) (P : Option Addr) (a r : Int) : Prop := w.heap[t]? = some (.cells (trc P a r) 69 (0, 0))
theorem verdict_any (w : World) (t : Nat) (P : Option Addr) (a r : Int) (h : TrialAt w t P a r) (x : Int) (hx : x = if r > 0 then 16 else 0) : Calls Try.prog 24 #[.pointer (some ⟨t, 0, none⟩)] w fun e w' => e = .returned (.int .i64 x) ∧ w = w' := by
  have h' := h
  unfold TrialAt trc at h'
  have L := Lib.hid (oload_any t 2 r w _ _ h' rfl)
  clear h h'
  by_cases h0 : r > 0
  · rw [if_pos h0] at hx
    subst hx
    have h0' : (0 : Int) < r := h0
    go_enter Try.func24, Try.ntmps24
    go_wp2_with (go_at_call 25; refine L.out.mono ?_; rintro e w' ⟨rfl, rfl⟩)
    go_ret
    exact ⟨rfl, rfl⟩
  · rw [if_neg h0] at hx
    subst hx
    have h0' : ¬ (0 : Int) < r := h0
    go_enter Try.func24, Try.ntmps24
    go_wp2_with (go_at_call 25; refine L.out.mono ?_; rintro e w' ⟨rfl, rfl⟩)
    go_ret
    exact ⟨rfl, rfl⟩
theorem allowed_any (w : World) (t : Nat) (P : Option Addr) (a r : Int) (h : TrialAt w t P a r) (h0 : 0 ≤ a) (h1 : a ≤ 100000) : Calls Try.prog 17 #[.pointer (some ⟨t, 0, none⟩)] w fun e w' => e = .returned (.int .i64 a) ∧ w = w' := by
  have h' := h
  unfold TrialAt trc at h'
  have L := Lib.hid (oload_any t 1 a w _ _ h' rfl)
  clear h h'
  go_enter Try.func17, Try.ntmps17
  go_wp2_with (go_at_call 25; refine L.out.mono ?_; rintro e w' ⟨rfl, rfl⟩)
  go_ret
  exact ⟨by go_num, rfl⟩
end Go.Proofs.Ytnocekhgabgffaa
