/- Events that stop a core, or put an entry into its buffer: walked. No condition. -/
import Derived.Test.YtnocekhgabgffaaBuf
namespace Go.Proofs.Ytnocekhgabgffaa
open Go.RowKit
set_option linter.unusedVariables false
set_option maxHeartbeats 1000000

set_option maxRecDepth 100000
attribute [local go_sem ↓] append_appS copy_copS clear_clrS make_mkS slice_slS lookup_lookS mput_mputS del_mdelS cell_row frozen_row heap_drew heap_drewN heap_alloc heap_past heap_setCell heap_putRow heap_setB loadEv storeEv loadBe storeBe loadSp storeSp loadNw storeNw loadLine storeLine evc_kd evc_co evc_li evc_wo evc_va bec_fl bec_li bec_wo bec_va nwC_0 nwC_1 spC_0 spC_1
attribute [local go_sem] rowCell_some rowFrozen_some rowHas_some rowIn_some rowPart_full rowPart_lit rowPut_full rowPut_lit rowSet_some size_putRow size_setB run_loadS run_storeS run_appS run_copS run_clrS run_mkS run_slS run_lookS run_mputS run_mdelS loadW_at storeW_at fit_all fit_le one_int one_bool one_pointer one_slice allOne_list putRow_new ne_size1 ne_size2 ne_size3 ne_size4 wideEv wideBe wideSp wideNw wideLine evc_size evc_one evc_ne evc_lit evc_z fold_evc bec_size bec_one bec_lit bec_ne bec_at bec_in spC_size spC_one nwC_size nwC_one nwC_ne nwC_set0 nwC_set1 nwC_lit bec_set0 bec_set1 bec_set2 bec_set3 spC_set0 spC_set1 spC_lit fold_spC spC_ne fold_nwC fold_bec fold_at vs_size vs_one ic_size ic_get
attribute [local simp ↓] heap_drew heap_drewN heap_alloc heap_past heap_setCell heap_putRow heap_setB
attribute [local simp] rowCell_some rowFrozen_some rowHas_some rowIn_some rowPart_full rowPart_lit rowPut_full rowPut_lit rowSet_some size_putRow size_setB fit_all putRow_new ne_size1 ne_size2 ne_size3 ne_size4 evc_size bec_size spC_size nwC_size vs_size fit_le
def Bs.stopC (S : Bs) (i : Nat) : Bs := if (S.core i).st then S else S.setC i { S.core i with st := true }
def Bs.putC (S : Bs) (i : Nat) (y : Be) : Bs := if (S.core i).st then S else S.setC i ((S.core i).putE y)
section
variable {n m : Nat} {w : World} {q : Nat} {F : List Nat} {S : Bs}
theorem stop_ev (h : BusM n m w q F S) {i : Nat} (hi : i < m) (kd li wo va : Int) : Calls Try.prog 52 #[.pointer (some ⟨q, 0, none⟩), .agg (evc ⟨kd, i, li, wo, va⟩)] w fun r w' => r = .returned (.bool (!(S.core i).st)) ∧ BusTo n m w q F (S.stopC i) w' := by
  obtain ⟨bl, cl, kb, bp, bc, bm, xs, G, P0⟩ := h
  obtain ⟨n1, n2⟩ := one_new w (.cells (evc ⟨kd, i, li, wo, va⟩) 41)
  have P := P0.keep n2 (by simp)
  have hpF : ∀ z ∈ F, z ≠ w.heap.size := fun z hz e => by have := P0.old z hz; omega
  have N2 := Lib.hid n2
  clear n2 P0
  go_enter Try.func52, Try.ntmps52
  go_upto_region 1 with fail
  generalize w.alloc (.cells (evc ⟨kd, i, li, wo, va⟩) 41) = w1 at *
  generalize w.heap.size = p at *
  have hq := P.hq
  unfold busc at hq
  obtain ⟨x, g, hco, hg, hcs⟩ := P.core hi
  have hcb := hco.hb
  obtain ⟨c0, c1, c2, c3, c4, c5, c6, c7, c8⟩ := cx_cells hco.hx
  rw [hco.co.st] at c3
  have i0 : (0 : Int) ≤ (i : Int) := by omega
  have i1 : (i : Int) < (m : Int) := by omega
  have HCO := Lib.hid hco
  have HP := Lib.hid P
  cases hst : (S.core i).st
  · rw [hst] at c3
    clear P hco hcs hi
    go_quiet (fail)
    have D := (Chg.refl [] w1).drewN nq
    have N3 := Lib.hid (N2.out.trans D)
    have HP3 := Lib.hid (HP.out.keep D (by simp))
    have HC3 := Lib.hid (HCO.out.keep D (by simp) (by simp))
    have hcb := D.keep hcb (by simp)
    clear D N2 HP hq n1 HCO
    generalize w1.drewN nq = w2 at *
    go_wp2_with fail
    go_ret
    rw [hst]
    refine ⟨rfl, ?_⟩
    rw [show S.stopC i = S.setC i { S.core i with st := true } by simp [Bs.stopC, hst]]
    have c4 : Chg [bc] w2 (w2.setCell ⟨bc, i * 9 + 3, none⟩ (.bool true)) := (Chg.refl [bc] w2).setCell _ _ _ (.inl (by simp))
    have ht : CoTo w2 bc i xs g { S.core i with st := true } (w2.setCell ⟨bc, i * 9 + 3, none⟩ (.bool true)) := by
      refine ⟨{ x with st := true }, g, ?_, (HC3.out.co.stop true).keep c4 (fun b hb => ?_), HC3.out.nd, fun b hb => .inl hb, c4.mono (by simp)⟩
      · rw [heap_setCell, if_pos rfl, hcb, rowSet_some, cx_st HC3.out.hx]
      · simp; rintro rfl; exact HC3.out.nb hb
    obtain ⟨F', xs', G', p1, p2, p3⟩ := HP3.out.setc hg ht
    exact (show BusTo n m w2 q F (S.setC i { S.core i with st := true }) _ from ⟨F', ⟨_, _, _, _, _, _, _, _, p1⟩, p2, p3⟩).of N3.out
  · rw [hst] at c3
    have HM := Lib.hid (show BusM n m w1 q F S from ⟨_, _, _, _, _, _, _, _, P⟩)
    clear P hco hcs hi HP HCO
    go_quiet (fail)
    go_wp2_with fail
    go_ret
    rw [hst]
    refine ⟨rfl, ?_⟩
    rw [show S.stopC i = S by simp [Bs.stopC, hst]]
    exact ((HM.out.to ((Chg.refl [] w1).drewN nq)).of N2.out)
theorem put_ev (h : BusM n m w q F S) {N : Nat} (ok : S.Ok n m N) (hN : N ≤ 1000000) {i : Nat} (hi : i < m) (kd li wo va : Int) (y : Be) : Calls Try.prog 66 #[.pointer (some ⟨q, 0, none⟩), .agg (evc ⟨kd, i, li, wo, va⟩), .agg (bec y)] w fun r w' => r = .returned (.bool (!(S.core i).st)) ∧ BusTo n m w q F (S.putC i y) w' := by
  obtain ⟨bl, cl, kb, bp, bc, bm, xs, G, P0⟩ := h
  obtain ⟨n0, n1, n2⟩ := two_new w (.cells (evc ⟨kd, i, li, wo, va⟩) 41) (.cells (bec y) 125)
  have P := P0.keep n2 (by simp)
  have hpF : ∀ z ∈ F, z ≠ w.heap.size + 1 := fun z hz e => by have := P0.old z hz; omega
  have N2 := Lib.hid n2
  clear n2 P0
  go_enter Try.func66, Try.ntmps66
  go_upto_region 1 with fail
  generalize ((w.alloc (.cells (evc ⟨kd, i, li, wo, va⟩) 41)).alloc (.cells (bec y) 125)) = w1 at *
  generalize w.heap.size + 1 = p2 at *
  generalize w.heap.size = p at *
  have hq := P.hq
  unfold busc at hq
  obtain ⟨x, g, hco, hg, hcs⟩ := P.core hi
  have hcb := hco.hb
  obtain ⟨c0, c1, c2, c3, c4, c5, c6, c7, c8⟩ := cx_cells hco.hx
  rw [hco.co.st] at c3
  have i0 : (0 : Int) ≤ (i : Int) := by omega
  have i1 : (i : Int) < (m : Int) := by omega
  have HCO := Lib.hid hco
  have HP := Lib.hid P
  have HS := Lib.hid (ok.cb _ (List.mem_of_getElem? hcs))
  cases hst : (S.core i).st
  · rw [hst] at c3
    clear P hco hcs hi
    go_quiet (fail)
    have D := (Chg.refl [] w1).drewN nq
    have N3 := Lib.hid (N2.out.trans D)
    have HP3 := Lib.hid (HP.out.keep D (by simp))
    have HC3 := Lib.hid (HCO.out.keep D (by simp) (by simp))
    have hcb := D.keep hcb (by simp)
    have n1 := D.keep n1 (by simp)
    clear D N2 HP hq HCO
    generalize w1.drewN nq = w2 at *
    go_wp2_with (go_at_call 71; refine (put_any HC3.out HS.out hN _).mono ?_; rintro e w3 ⟨rfl, ht⟩; have HT := Lib.hid ht; clear ht)
    go_ret
    rw [hst]
    refine ⟨rfl, ?_⟩
    rw [show S.putC i y = S.setC i ((S.core i).putE y) by simp [Bs.putC, hst]]
    obtain ⟨F', xs', G', p1, p2, p3⟩ := HP3.out.setc hg HT.out
    exact (show BusTo n m w2 q F (S.setC i ((S.core i).putE y)) _ from ⟨F', ⟨_, _, _, _, _, _, _, _, p1⟩, p2, p3⟩).of N3.out
  · rw [hst] at c3
    have HM := Lib.hid (show BusM n m w1 q F S from ⟨_, _, _, _, _, _, _, _, P⟩)
    clear P hco hcs hi HP HCO
    go_quiet (fail)
    go_wp2_with fail
    go_ret
    rw [hst]
    refine ⟨rfl, ?_⟩
    rw [show S.putC i y = S by simp [Bs.putC, hst]]
    exact ((HM.out.to ((Chg.refl [] w1).drewN nq)).of N2.out)
theorem issue_ev (h : BusM n m w q F S) {N : Nat} (ok : S.Ok n m N) (hN : N ≤ 1000000) {i : Nat} (hi : i < m) (kd li wo va : Int) : Calls Try.prog 54 #[.pointer (some ⟨q, 0, none⟩), .agg (evc ⟨kd, i, li, wo, va⟩)] w fun r w' => r = .returned (.bool (!(S.core i).st)) ∧ BusTo n m w q F (S.putC i (storeOf ⟨kd, i, li, wo, va⟩)) w' := by
  obtain ⟨n1, n2⟩ := one_new w (.cells (evc ⟨kd, i, li, wo, va⟩) 41)
  have h := h.keep n2 (by simp)
  have N2 := Lib.hid n2
  clear n2
  go_enter Try.func54, Try.ntmps54
  go_upto_region 1 with fail
  generalize w.alloc (.cells (evc ⟨kd, i, li, wo, va⟩) 41) = w1 at *
  generalize w.heap.size = p at *
  have HM := Lib.hid h
  clear h
  go_region_law (first | (go_simp; go_at_call 63; refine (storeof_any _ _).mono ?_; rintro e w3 ⟨rfl, c3⟩; have d3 : Chg [] w1 w3 := Chg.trans (by first | exact Chg.refl [] w1 | exact (Chg.refl [] w1).drew) c3; have n3 := d3.keep n1 (by simp); have C3 := Lib.hid d3; clear c3 d3) | (go_simp; go_at_call 66; refine (put_ev (HM.out.keep C3.out (by simp)) ok hN hi _ _ _ _ _).mono ?_; rintro e w4 ⟨rfl, c4⟩; have C4 := Lib.hid c4; clear c4))
  all_goals
    go_wp2_with fail
    go_ret
    exact ⟨rfl, (C4.out.of C3.out).of N2.out⟩
theorem want_ev (h : BusM n m w q F S) {N : Nat} (ok : S.Ok n m N) (hN : N ≤ 1000000) {i : Nat} (hi : i < m) (kd li wo va : Int) : Calls Try.prog 56 #[.pointer (some ⟨q, 0, none⟩), .agg (evc ⟨kd, i, li, wo, va⟩)] w fun r w' => r = .returned (.bool (!(S.core i).st)) ∧ BusTo n m w q F (S.putC i (flushOf ⟨kd, i, li, wo, va⟩)) w' := by
  obtain ⟨n1, n2⟩ := one_new w (.cells (evc ⟨kd, i, li, wo, va⟩) 41)
  have h := h.keep n2 (by simp)
  have N2 := Lib.hid n2
  clear n2
  go_enter Try.func56, Try.ntmps56
  go_upto_region 1 with fail
  generalize w.alloc (.cells (evc ⟨kd, i, li, wo, va⟩) 41) = w1 at *
  generalize w.heap.size = p at *
  have HM := Lib.hid h
  clear h
  go_region_law (first | (go_simp; go_at_call 67; refine (flushof_any _ _).mono ?_; rintro e w3 ⟨rfl, c3⟩; have d3 : Chg [] w1 w3 := Chg.trans (by first | exact Chg.refl [] w1 | exact (Chg.refl [] w1).drew) c3; have n3 := d3.keep n1 (by simp); have C3 := Lib.hid d3; clear c3 d3) | (go_simp; go_at_call 66; refine (put_ev (HM.out.keep C3.out (by simp)) ok hN hi _ _ _ _ _).mono ?_; rintro e w4 ⟨rfl, c4⟩; have C4 := Lib.hid c4; clear c4))
  all_goals
    go_wp2_with fail
    go_ret
    exact ⟨rfl, (C4.out.of C3.out).of N2.out⟩
end
end Go.Proofs.Ytnocekhgabgffaa
