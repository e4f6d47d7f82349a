/- What a bus tells of itself; of no bus: walked. No condition. -/
import Derived.Test.YtnocekhgabgffaaBud
namespace Go.Proofs.Ytnocekhgabgffaa
open Go.RowKit
set_option linter.unusedVariables false
set_option maxHeartbeats 1000000

set_option maxRecDepth 100000
attribute [local go_sem ↓] append_appS copy_copS clear_clrS make_mkS slice_slS lookup_lookS mput_mputS del_mdelS cell_row frozen_row heap_drew heap_drewN heap_alloc heap_past heap_setCell heap_putRow heap_setB loadEv storeEv loadBe storeBe loadSp storeSp loadNw storeNw loadLine storeLine evc_kd evc_co evc_li evc_wo evc_va bec_fl bec_li bec_wo bec_va nwC_0 nwC_1 spC_0 spC_1
attribute [local go_sem] rowCell_some rowFrozen_some rowHas_some rowIn_some rowPart_full rowPart_lit rowPut_full rowPut_lit rowSet_some size_putRow size_setB run_loadS run_storeS run_appS run_copS run_clrS run_mkS run_slS run_lookS run_mputS run_mdelS loadW_at storeW_at fit_all fit_le one_int one_bool one_pointer one_slice allOne_list putRow_new ne_size1 ne_size2 ne_size3 ne_size4 wideEv wideBe wideSp wideNw wideLine evc_size evc_one evc_ne evc_lit evc_z fold_evc bec_size bec_one bec_lit bec_ne bec_at bec_in spC_size spC_one nwC_size nwC_one nwC_ne nwC_set0 nwC_set1 nwC_lit bec_set0 bec_set1 bec_set2 bec_set3 spC_set0 spC_set1 spC_lit fold_spC spC_ne fold_nwC fold_bec fold_at vs_size vs_one ic_size ic_get
attribute [local simp ↓] heap_drew heap_drewN heap_alloc heap_past heap_setCell heap_putRow heap_setB
attribute [local simp] rowCell_some rowFrozen_some rowHas_some rowIn_some rowPart_full rowPart_lit rowPut_full rowPut_lit rowSet_some size_putRow size_setB fit_all putRow_new ne_size1 ne_size2 ne_size3 ne_size4 evc_size bec_size spC_size nwC_size vs_size fit_le
/-! ### Lines, Kept, Pending -/
section
variable {n m : Nat} {w : World} {q : Nat} {F : List Nat} {S : Bs}
/-- New lines. -/
def LinesOf (w : World) (n : Nat) (xs : List Int) (e : Ending) (w' : World) : Prop := ∃ g cap r, e = .returned (.slice (some ⟨g, 0, none⟩) n cap) ∧ w'.heap[g]? = some (.cells (bk xs r) 44 (0, 0)) ∧ w.heap.size ≤ g ∧ n ≤ cap ∧ Chg [] w w'
theorem blines_ok (h : BusM n m w q F S) {N : Nat} (ok : S.Ok n m N) : Calls Try.prog 20 #[.pointer (some ⟨q, 0, none⟩)] w (LinesOf w n S.ls) := by
  obtain ⟨bl, cl, kb, bp, bc, bm, xs, G, P⟩ := h
  have hq := P.hq
  unfold busc at hq
  obtain ⟨r, hr⟩ := P.hl
  have hsl := Sl.of_bk (n := n) hr ok.ls
  have hn := ok.n0
  have h64 := ok.n64
  clear P
  go_enter Try.func20, Try.ntmps20
  go_wp2_with (go_at_call 31; refine (clone_ok _ n _ _ w hsl hn (by omega)).mono ?_; rintro e w8 ⟨g, cap, r8, rfl, hl8, hge8, hcap, c8⟩)
  go_ret
  exact ⟨g, cap, r8, rfl, hl8, hge8, hcap, c8⟩
theorem bkept_ok (h : BusM n m w q F S) {N : Nat} (ok : S.Ok n m N) : Calls Try.prog 21 #[.pointer (some ⟨q, 0, none⟩)] w (LinesOf w n S.ks) := by
  obtain ⟨bl, cl, kb, bp, bc, bm, xs, G, P⟩ := h
  have hq := P.hq
  unfold busc at hq
  have hsl := Sl.of_bk (n := n) P.hk ok.ks
  have hn := ok.n0
  have h64 := ok.n64
  clear P
  go_enter Try.func21, Try.ntmps21
  go_wp2_with (go_at_call 31; refine (clone_ok _ n _ _ w hsl hn (by omega)).mono ?_; rintro e w8 ⟨g, cap, r8, rfl, hl8, hge8, hcap, c8⟩)
  go_ret
  exact ⟨g, cap, r8, rfl, hl8, hge8, hcap, c8⟩
end
theorem bdo_nil (e : Ev) (w : World) : Calls Try.prog 35 #[.pointer none, .agg (evc e)] w fun r w' => r = .returned (.bool false) ∧ Chg [] w w' := by
  go_enter Try.func35, Try.ntmps35
  go_wp2_with fail
  go_ret
  exact ⟨rfl, (Chg.refl [] w).alloc _⟩
theorem blines_nil (w : World) : Calls Try.prog 20 #[.pointer none] w fun r w' => r = .returned (.slice none 0 0) ∧ w = w' := by
  go_enter Try.func20, Try.ntmps20
  go_wp2_with fail
  go_ret
  exact ⟨rfl, rfl⟩
theorem bkept_nil (w : World) : Calls Try.prog 21 #[.pointer none] w fun r w' => r = .returned (.slice none 0 0) ∧ w = w' := by
  go_enter Try.func21, Try.ntmps21
  go_wp2_with fail
  go_ret
  exact ⟨rfl, rfl⟩
end Go.Proofs.Ytnocekhgabgffaa
