/- What a bus tells of itself; of no bus: walked. No condition. -/
import Derived.Test.YtgpmhbkpagfjaaaBud
namespace Go.Proofs.Ytgpmhbkpagfjaaa
open Go.RowKit
set_option linter.unusedVariables false
set_option maxHeartbeats 1000000

set_option maxRecDepth 100000
attribute [local go_sem ↓] append_appS copy_copS clear_clrS make_mkS slice_slS lookup_lookS mput_mputS del_mdelS cell_row frozen_row heap_drew heap_drewN heap_alloc heap_past heap_setCell heap_putRow heap_setB loadEv storeEv loadBe storeBe loadSp storeSp loadNw storeNw loadLine storeLine evc_kd evc_co evc_li evc_wo evc_va bec_fl bec_li bec_wo bec_va nwC_0 nwC_1 spC_0 spC_1
attribute [local go_sem] rowCell_some rowFrozen_some rowHas_some rowIn_some rowPart_full rowPart_lit rowPut_full rowPut_lit rowSet_some size_putRow size_setB run_loadS run_storeS run_appS run_copS run_clrS run_mkS run_slS run_lookS run_mputS run_mdelS loadW_at storeW_at fit_all fit_le one_int one_bool one_pointer one_slice allOne_list putRow_new ne_size1 ne_size2 ne_size3 ne_size4 wideEv wideBe wideSp wideNw wideLine evc_size evc_one evc_ne evc_lit evc_z fold_evc bec_size bec_one bec_lit bec_ne bec_at bec_in spC_size spC_one nwC_size nwC_one nwC_ne nwC_set0 nwC_set1 nwC_lit bec_set0 bec_set1 bec_set2 bec_set3 spC_set0 spC_set1 spC_lit fold_spC spC_ne fold_nwC fold_bec fold_at vs_size vs_one ic_size ic_get
attribute [local simp ↓] heap_drew heap_drewN heap_alloc heap_past heap_setCell heap_putRow heap_setB
attribute [local simp] rowCell_some rowFrozen_some rowHas_some rowIn_some rowPart_full rowPart_lit rowPut_full rowPut_lit rowSet_some size_putRow size_setB fit_all putRow_new ne_size1 ne_size2 ne_size3 ne_size4 evc_size bec_size spC_size nwC_size vs_size fit_le
/-! ### Lines, Kept, Pending -/
section
variable {n m : Nat} {w : World} {q : Nat} {F : List Nat} {S : Bs}
/-- New lines. -/
def LinesOf (w : World) (n : Nat) (xs : List Int) (e : Ending) (w' : World) : Prop := ∃ g cap r, e = .returned (.slice (some ⟨g, 0, none⟩) n cap) ∧ w'.heap[g]? = some (.cells (bk xs r) 42 (0, 0)) ∧ w.heap.size ≤ g ∧ n ≤ cap ∧ Chg [] w w'
theorem blines_ok (h : BusM n m w q F S) {N : Nat} (ok : S.Ok n m N) : Calls Try.prog 12 #[.pointer (some ⟨q, 0, none⟩)] w (LinesOf w n S.ls) := by
  obtain ⟨bl, cl, kb, bp, bc, bm, xs, G, P⟩ := h
  have hq := P.hq
  unfold busc at hq
  obtain ⟨r, hr⟩ := P.hl
  have hsl := Sl.of_bk (n := n) hr ok.ls
  have hn := ok.n0
  have h64 := ok.n64
  clear P
  go_enter Try.func12, Try.ntmps12
  go_wp2_with (go_at_call 19; refine (clone_ok _ n _ _ w hsl hn (by omega)).mono ?_; rintro e w8 ⟨g, cap, r8, rfl, hl8, hge8, hcap, c8⟩)
  go_ret
  exact ⟨g, cap, r8, rfl, hl8, hge8, hcap, c8⟩
theorem bkept_ok (h : BusM n m w q F S) {N : Nat} (ok : S.Ok n m N) : Calls Try.prog 10 #[.pointer (some ⟨q, 0, none⟩)] w (LinesOf w n S.ks) := by
  obtain ⟨bl, cl, kb, bp, bc, bm, xs, G, P⟩ := h
  have hq := P.hq
  unfold busc at hq
  have hsl := Sl.of_bk (n := n) P.hk ok.ks
  have hn := ok.n0
  have h64 := ok.n64
  clear P
  go_enter Try.func10, Try.ntmps10
  go_wp2_with (go_at_call 19; refine (clone_ok _ n _ _ w hsl hn (by omega)).mono ?_; rintro e w8 ⟨g, cap, r8, rfl, hl8, hge8, hcap, c8⟩)
  go_ret
  exact ⟨g, cap, r8, rfl, hl8, hge8, hcap, c8⟩
theorem bpend_ok (h : BusM n m w q F S) {i : Nat} (hi : i < m) : Calls Try.prog 13 #[.pointer (some ⟨q, 0, none⟩), .int .i64 i] w fun e w' => e = .returned (.int .i64 (S.core i).buf.length) ∧ Chg [] w w' := by
  obtain ⟨bl, cl, kb, bp, bc, bm, xs, G, P⟩ := h
  have hq := P.hq
  unfold busc at hq
  obtain ⟨x, g, hco, hg, hcs⟩ := P.core hi
  have hcb := hco.hb
  obtain ⟨c0, c1, c2, c3, c4, c5, c6, c7, c8⟩ := cx_cells hco.hx
  rw [hco.co.n] at c0
  have i0 : (0 : Int) ≤ (i : Int) := by omega
  have i1 : (i : Int) < (m : Int) := by omega
  have hb : isOfB i m = true := by unfold isOfB; simp; omega
  generalize hlen : (S.core i).buf.length = k at *
  have HK := Lib.hid hlen
  clear P hco hcs hg hlen
  go_enter Try.func13, Try.ntmps13
  go_wp2_with (go_at_call 22; refine (isof_any _ _ _).mono ?_; rintro e w' ⟨rfl, rfl⟩; rw [hb])
  go_ret
  exact ⟨rfl, Chg.refl _ _⟩
end
theorem bdo_nil (e : Ev) (w : World) : Calls Try.prog 11 #[.pointer none, .agg (evc e)] w fun r w' => r = .returned (.bool false) ∧ Chg [] w w' := by
  go_enter Try.func11, Try.ntmps11
  go_wp2_with fail
  go_ret
  exact ⟨rfl, (Chg.refl [] w).alloc _⟩
theorem blines_nil (w : World) : Calls Try.prog 12 #[.pointer none] w fun r w' => r = .returned (.slice none 0 0) ∧ w = w' := by
  go_enter Try.func12, Try.ntmps12
  go_wp2_with fail
  go_ret
  exact ⟨rfl, rfl⟩
theorem bkept_nil (w : World) : Calls Try.prog 10 #[.pointer none] w fun r w' => r = .returned (.slice none 0 0) ∧ w = w' := by
  go_enter Try.func10, Try.ntmps10
  go_wp2_with fail
  go_ret
  exact ⟨rfl, rfl⟩
theorem bpend_nil (k : Int) (w : World) : Calls Try.prog 13 #[.pointer none, .int .i64 k] w fun r w' => r = .returned (.int .i64 0) ∧ w = w' := by
  go_enter Try.func13, Try.ntmps13
  go_wp2_with fail
  go_ret
  exact ⟨rfl, rfl⟩
end Go.Proofs.Ytgpmhbkpagfjaaa
