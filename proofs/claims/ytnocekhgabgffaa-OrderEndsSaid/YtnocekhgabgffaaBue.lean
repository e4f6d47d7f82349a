/- What events do to a bus: walked. No condition. -/
import Derived.Test.YtnocekhgabgffaaBud
namespace Go.Proofs.Ytnocekhgabgffaa
open Go.RowKit
set_option linter.unusedVariables false
set_option maxHeartbeats 1000000

set_option maxRecDepth 100000
attribute [local go_sem ↓] append_appS copy_copS clear_clrS make_mkS slice_slS lookup_lookS mput_mputS del_mdelS cell_row frozen_row heap_drew heap_drewN heap_alloc heap_past heap_setCell heap_putRow heap_setB loadEv storeEv loadBe storeBe loadSp storeSp loadNw storeNw loadLine storeLine evc_kd evc_co evc_li evc_wo evc_va bec_fl bec_li bec_wo bec_va nwC_0 nwC_1 spC_0 spC_1
attribute [local go_sem] rowCell_some rowFrozen_some rowHas_some rowIn_some rowPart_full rowPart_lit rowPut_full rowPut_lit rowSet_some size_putRow size_setB run_loadS run_storeS run_appS run_copS run_clrS run_mkS run_slS run_lookS run_mputS run_mdelS loadW_at storeW_at fit_all fit_le one_int one_bool one_pointer one_slice allOne_list putRow_new ne_size1 ne_size2 ne_size3 ne_size4 wideEv wideBe wideSp wideNw wideLine evc_size evc_one evc_ne evc_lit evc_z fold_evc bec_size bec_one bec_lit bec_ne bec_at bec_in spC_size spC_one nwC_size nwC_one nwC_ne nwC_set0 nwC_set1 nwC_lit bec_set0 bec_set1 bec_set2 bec_set3 spC_set0 spC_set1 spC_lit fold_spC spC_ne fold_nwC fold_bec fold_at vs_size vs_one ic_size ic_get
attribute [local simp ↓] heap_drew heap_drewN heap_alloc heap_past heap_setCell heap_putRow heap_setB
attribute [local simp] rowCell_some rowFrozen_some rowHas_some rowIn_some rowPart_full rowPart_lit rowPut_full rowPut_lit rowSet_some size_putRow size_setB fit_all putRow_new ne_size1 ne_size2 ne_size3 ne_size4 evc_size bec_size spC_size nwC_size vs_size fit_le
section
variable {n m : Nat} {w : World} {q : Nat} {F : List Nat} {S : Bs}
theorem tell_ev (h : BusM n m w q F S) {i : Nat} (hi : i < m) (kd li wo va : Int) : Calls Try.prog 51 #[.pointer (some ⟨q, 0, none⟩), .agg (evc ⟨kd, i, li, wo, va⟩)] w fun r w' => r = .returned (.bool (!(S.core i).st)) ∧ Chg [] w w' := by
  obtain ⟨bl, cl, kb, bp, bc, bm, xs, G, P0⟩ := h
  obtain ⟨n1, n2⟩ := one_new w (.cells (evc ⟨kd, i, li, wo, va⟩) 41)
  have P := P0.keep n2 (by simp)
  have hpF : ∀ z ∈ F, z ≠ w.heap.size := fun z hz e => by have := P0.old z hz; omega
  have N2 := Lib.hid n2
  clear n2 P0
  go_enter Try.func51, Try.ntmps51
  go_upto_region 1 with fail
  generalize w.alloc (.cells (evc ⟨kd, i, li, wo, va⟩) 41) = w1 at *
  generalize w.heap.size = p at *
  have hq := P.hq
  unfold busc at hq
  obtain ⟨x, g, hco, hg, hcs⟩ := P.core hi
  have hcb := hco.hb
  obtain ⟨c0, c1, c2, c3, c4, c5, c6, c7, c8⟩ := cx_cells hco.hx
  rw [hco.co.st] at c3
  have i0 : (0 : Int) ≤ (i : Int) := by omega
  have i1 : (i : Int) < (m : Int) := by omega
  generalize hst : (S.core i).st = st at *
  have HST := Lib.hid hst
  clear P hco hcs hi hst
  go_quiet (fail)
  go_wp2_with fail
  go_ret
  rw [HST.out]
  exact ⟨rfl, N2.out.drewN _⟩
theorem fence_ev (h : BusM n m w q F S) {i : Nat} (hi : i < m) (kd li wo va : Int) : Calls Try.prog 50 #[.pointer (some ⟨q, 0, none⟩), .agg (evc ⟨kd, i, li, wo, va⟩)] w fun r w' => r = .returned (.bool (!(S.core i).st && (S.core i).settled)) ∧ Chg [] w w' := by
  obtain ⟨bl, cl, kb, bp, bc, bm, xs, G, P0⟩ := h
  obtain ⟨n1, n2⟩ := one_new w (.cells (evc ⟨kd, i, li, wo, va⟩) 41)
  have P := P0.keep n2 (by simp)
  have hpF : ∀ z ∈ F, z ≠ w.heap.size := fun z hz e => by have := P0.old z hz; omega
  have N2 := Lib.hid n2
  clear n2 P0
  go_enter Try.func50, Try.ntmps50
  go_upto_region 1 with fail
  generalize w.alloc (.cells (evc ⟨kd, i, li, wo, va⟩) 41) = w1 at *
  generalize w.heap.size = p at *
  have hq := P.hq
  unfold busc at hq
  obtain ⟨x, g, hco, hg, hcs⟩ := P.core hi
  have hcb := hco.hb
  obtain ⟨c0, c1, c2, c3, c4, c5, c6, c7, c8⟩ := cx_cells hco.hx
  rw [hco.co.st] at c3
  have i0 : (0 : Int) ≤ (i : Int) := by omega
  have i1 : (i : Int) < (m : Int) := by omega
  have HCO := Lib.hid hco
  clear P hco hcs hi
  cases hst : (S.core i).st
  all_goals
    rw [hst] at c3
    go_quiet (fail)
    have h2 := HCO.out.keep ((Chg.refl [] w1).drewN nq) (by simp) (by simp)
    have H2 := Lib.hid h2
    clear h2
    go_wp2_with (go_at_call 65; refine (settled_any H2.out).mono ?_; rintro e w' ⟨rfl, rfl⟩)
    go_ret
    exact ⟨by rw [hst]; rfl, N2.out.drewN _⟩
theorem sees_ev (h : BusM n m w q F S) {N : Nat} (ok : S.Ok n m N) {l o : Nat} (hl : l < n) (ho : o < 8) (kd co va : Int) : Calls Try.prog 61 #[.pointer (some ⟨q, 0, none⟩), .agg (evc ⟨kd, co, l, o, va⟩)] w fun r w' => r = .returned (.bool (S.word l o == va)) ∧ Chg [] w w' := by
  obtain ⟨bl, cl, kb, bp, bc, bm, xs, G, P0⟩ := h
  obtain ⟨n1, n2⟩ := one_new w (.cells (evc ⟨kd, co, l, o, va⟩) 41)
  have P := P0.keep n2 (by simp)
  have hpF : ∀ z ∈ F, z ≠ w.heap.size := fun z hz e => by have := P0.old z hz; omega
  have N2 := Lib.hid n2
  clear n2 P0
  go_enter Try.func61, Try.ntmps61
  go_upto_region 1 with fail
  generalize w.alloc (.cells (evc ⟨kd, co, l, o, va⟩) 41) = w1 at *
  generalize w.heap.size = p at *
  have hq := P.hq
  unfold busc at hq
  obtain ⟨r, hr⟩ := P.hl
  have l0 : (0 : Int) ≤ (l : Int) := by omega
  have l1 : (l : Int) < (n : Int) := by omega
  have o0 : (0 : Int) ≤ (o : Int) := by omega
  have o1 : (o : Int) < 8 := by omega
  have hw : (bk S.ls r)[l * 8 + o]? = some (.int .u64 (S.word l o)) := by
    have := ok.ls
    unfold bk Bs.word
    rw [List.getElem?_toArray, List.getElem?_append_left (by simp; omega), List.getElem?_map, List.getD_eq_getElem?_getD, List.getElem?_eq_getElem (by omega)]
    rfl
  generalize hv : S.word l o = v at *
  have HV := Lib.hid hv
  clear P ok hl ho hv
  go_quiet (fail)
  go_wp2_with fail
  go_ret
  rw [HV.out]
  exact ⟨rfl, N2.out.drewN _⟩
theorem change_ev (h : BusM n m w q F S) {N : Nat} (ok : S.Ok n m N) {i l o : Nat} (hi : i < m) (hl : l < n) (ho : o < 8) (kd va : Int) : Calls Try.prog 47 #[.pointer (some ⟨q, 0, none⟩), .agg (evc ⟨kd, i, l, o, va⟩)] w fun r w' => r = .returned (.bool ((!(S.core i).st && (S.core i).settled) && S.word l o == va)) ∧ Chg [] w w' := by
  obtain ⟨n1, n2⟩ := one_new w (.cells (evc ⟨kd, i, l, o, va⟩) 41)
  have h := h.keep n2 (by simp)
  have N2 := Lib.hid n2
  clear n2
  go_enter Try.func47, Try.ntmps47
  go_upto_region 1 with fail
  generalize w.alloc (.cells (evc ⟨kd, i, l, o, va⟩) 41) = w1 at *
  generalize w.heap.size = p at *
  have HM := Lib.hid h
  clear h
  cases hb : (!(S.core i).st && (S.core i).settled)
  · go_wp2_with (go_at_call 50; refine (fence_ev HM.out hi _ _ _ _).mono ?_; rintro e w3 ⟨rfl, c3⟩; rw [hb]; have C3 := Lib.hid c3; clear c3)
    go_ret
    exact ⟨by rw [hb]; rfl, N2.out.trans C3.out⟩
  · go_wp2_with (first | (go_at_call 50; refine (fence_ev HM.out hi _ _ _ _).mono ?_; rintro e w3 ⟨rfl, c3⟩; rw [hb]; have n3 := c3.keep n1 (by simp); have C3 := Lib.hid c3; clear c3) | (go_at_call 61; refine (sees_ev (HM.out.keep C3.out (by simp)) ok hl ho _ _ _).mono ?_; rintro e w4 ⟨rfl, c4⟩; have C4 := Lib.hid c4; clear c4))
    go_ret
    exact ⟨by rw [hb]; rfl, (N2.out.trans C3.out).trans C4.out⟩

end
end Go.Proofs.Ytnocekhgabgffaa
