/- A flush that is sent: walked. No condition. -/
import Derived.Test.YtnocekhgabgffaaBui
namespace Go.Proofs.Ytnocekhgabgffaa
open Go.RowKit
set_option linter.unusedVariables false
set_option maxHeartbeats 1000000

set_option maxRecDepth 100000
attribute [local go_sem ↓] append_appS copy_copS clear_clrS make_mkS slice_slS lookup_lookS mput_mputS del_mdelS cell_row frozen_row heap_drew heap_drewN heap_alloc heap_past heap_setCell heap_putRow heap_setB loadEv storeEv loadBe storeBe loadSp storeSp loadNw storeNw loadLine storeLine evc_kd evc_co evc_li evc_wo evc_va bec_fl bec_li bec_wo bec_va nwC_0 nwC_1 spC_0 spC_1
attribute [local go_sem] rowCell_some rowFrozen_some rowHas_some rowIn_some rowPart_full rowPart_lit rowPut_full rowPut_lit rowSet_some size_putRow size_setB run_loadS run_storeS run_appS run_copS run_clrS run_mkS run_slS run_lookS run_mputS run_mdelS loadW_at storeW_at fit_all fit_le one_int one_bool one_pointer one_slice allOne_list putRow_new ne_size1 ne_size2 ne_size3 ne_size4 wideEv wideBe wideSp wideNw wideLine evc_size evc_one evc_ne evc_lit evc_z fold_evc bec_size bec_one bec_lit bec_ne bec_at bec_in spC_size spC_one nwC_size nwC_one nwC_ne nwC_set0 nwC_set1 nwC_lit bec_set0 bec_set1 bec_set2 bec_set3 spC_set0 spC_set1 spC_lit fold_spC spC_ne fold_nwC fold_bec fold_at vs_size vs_one ic_size ic_get
attribute [local simp ↓] heap_drew heap_drewN heap_alloc heap_past heap_setCell heap_putRow heap_setB
attribute [local simp] rowCell_some rowFrozen_some rowHas_some rowIn_some rowPart_full rowPart_lit rowPut_full rowPut_lit rowSet_some size_putRow size_setB fit_all putRow_new ne_size1 ne_size2 ne_size3 ne_size4 evc_size bec_size spC_size nwC_size vs_size fit_le
section
variable {n m : Nat} {w : World} {q : Nat} {F : List Nat} {S : Bs}
def Bs.sendS (S : Bs) (i l : Nat) : Option Bs :=
  match (S.core i).takeE ⟨true, l, 0, 0⟩ with
  | some c' => some (S.setC i (c'.sendE l (S.ps.getD l 0)))
  | none => none
theorem setC_setC (S : Bs) (i : Nat) (c d : Bc) : (S.setC i c).setC i d = S.setC i d := by simp [Bs.setC]
theorem setC_core {S : Bs} {i : Nat} (h : i < S.cs.length) (c : Bc) : (S.setC i c).core i = c := by
  unfold Bs.core Bs.setC
  rw [List.getD_eq_getElem?_getD, List.getElem?_set_self h]; rfl
theorem take_tm {c c' : Bc} {y : Be} (h : c.takeE y = some c') : c'.tm = c.tm := by
  unfold Bc.takeE at h
  cases hb : c.buf with
  | nil => rw [hb] at h; cases h
  | cons z l =>
    rw [hb] at h
    simp only at h
    split at h
    · cases h; rfl
    · cases h
theorem send_ev (h : BusM n m w q F S) {N : Nat} (ok : S.Ok n m N) (hN : N ≤ 1000000) {i l : Nat} (hi : i < m) (hl : l < n) (kd wo va : Int) : Calls Try.prog 55 #[.pointer (some ⟨q, 0, none⟩), .agg (evc ⟨kd, i, l, wo, va⟩)] w fun r w' => r = .returned (.bool (S.sendS i l).isSome) ∧ BusTo n m w q F ((S.sendS i l).getD S) w' := by
  obtain ⟨bl, cl, kb, bp, bc, bm, xs, G, P0⟩ := h
  obtain ⟨n1, n2⟩ := one_new w (.cells (evc ⟨kd, i, l, wo, va⟩) 41)
  have P := P0.keep n2 (by simp)
  have hpF : ∀ z ∈ F, z ≠ w.heap.size := fun z hz e => by have := P0.old z hz; omega
  have N2 := Lib.hid n2
  clear n2 P0
  go_enter Try.func55, Try.ntmps55
  go_upto_region 1 with fail
  generalize w.alloc (.cells (evc ⟨kd, i, l, wo, va⟩) 41) = w1 at *
  generalize w.heap.size = p at *
  have hq := P.hq
  unfold busc at hq
  obtain ⟨x, g, hco, hg, hcs⟩ := P.core hi
  have hcb := hco.hb
  obtain ⟨c0, c1, c2, c3, c4, c5, c6, c7, c8⟩ := cx_cells hco.hx
  rw [hco.co.st] at c3
  have i0 : (0 : Int) ≤ (i : Int) := by omega
  have i1 : (i : Int) < (m : Int) := by omega
  have hsm := ok.cb _ (List.mem_of_getElem? hcs)
  have htl := hsm.tm
  have HS := Lib.hid hsm
  have HCO := Lib.hid hco
  have HP := Lib.hid P
  have l0 : (0 : Int) ≤ (l : Int) := by omega
  have l1 : (l : Int) < (n : Int) := by omega
  have hps : l < S.ps.length := by rw [ok.ps]; exact hl
  have him : i < S.cs.length := by rw [ok.cs]; exact hi
  have HI := Lib.hid him
  have HTL := Lib.hid htl
  have HPS := Lib.hid hps
  clear P hco hcs ok hps hsm him htl
  go_quiet (fail)
  have D := (Chg.refl [] w1).drewN nq
  have N3 := Lib.hid (N2.out.trans D)
  have P2 := HP.out.keep D (by simp)
  have HC3 := Lib.hid (HCO.out.keep D (by simp) (by simp))
  have n1 := D.keep n1 (by simp)
  clear D N2 HP hq HCO hcb
  generalize w1.drewN nq = w2 at *
  have HP2 := Lib.hid P2
  have hpg : p ∉ bc :: g := fun h => by
    rcases List.mem_cons.1 h with rfl | h
    · exact hpF p (P2.mem p (by simp)) rfl
    · exact hpF p (P2.per.mem_iff.2 (List.mem_append.2 (.inr (List.mem_flatten.2 ⟨g, List.mem_of_getElem? hg, h⟩)))) rfl
  have HPG := Lib.hid hpg
  clear P2 hpg
  cases htk : (S.core i).takeE (flushOf ⟨kd, i, l, wo, va⟩) with
  | none =>
    go_wp2_with (first | (go_at_call 67; refine (flushof_any _ _).mono ?_; rintro e w3 ⟨rfl, c3⟩; have n3 := c3.keep n1 (by simp); have C3 := Lib.hid c3; clear c3) | (go_at_call 62; refine (take_any (HC3.out.keep C3.out (by simp) (by simp)) HS.out hN _).mono ?_; rintro e w4 ⟨rfl, ht⟩; rw [htk]; have HT := Lib.hid ht; clear ht))
    go_ret
    have e0 : S.sendS i l = none := by
      unfold Bs.sendS
      rw [show (S.core i).takeE ⟨true, l, 0, 0⟩ = none from htk]
    rw [e0]
    have c4 : Chg [] w3 w4 := by
      rcases HT.out with ⟨c2, h1, h2⟩ | ⟨_, h1⟩
      · rw [htk] at h1; cases h1
      · exact h1
    exact ⟨rfl, ((show BusM n m w2 q F S from ⟨_, _, _, _, _, _, _, _, HP2.out⟩).to (C3.out.trans c4)).of N3.out⟩
  | some c' =>
    go_upto_if 2 with (first | (go_at_call 67; refine (flushof_any _ _).mono ?_; rintro e w3 ⟨rfl, c3⟩; have n3 := c3.keep n1 (by simp); have C3 := Lib.hid c3; clear c3) | (go_at_call 62; refine (take_any (HC3.out.keep C3.out (by simp) (by simp)) HS.out hN _).mono ?_; rintro e w4 ⟨rfl, ht⟩; rw [htk]; have HT := Lib.hid ht; clear ht))
    have ht : CoTo w3 bc i xs g c' w4 := by
      rcases HT.out with ⟨c2, h1, h2⟩ | ⟨h1, _⟩
      · rw [htk] at h1; cases h1; exact h2
      · rw [htk] at h1; cases h1
    have hcg : Chg (bc :: g) w3 w4 := by obtain ⟨_, _, _, _, _, _, h⟩ := ht; exact h
    have n4 := hcg.keep n3 HPG.out
    have hpo4 : p < w4.heap.size := lt_heap n4
    obtain ⟨F4, xs4, G4, P4, q4, f4⟩ := (HP2.out.keep C3.out (by simp)).setc hg ht
    have hpF4 : p ∉ F4 := fun h => by
      rcases f4 p h with h | h
      · exact hpF p h rfl
      · have := lt_heap n3; omega
    have Q4 := Lib.hid q4
    have FF4 := Lib.hid f4
    have HTK := Lib.hid htk
    obtain ⟨x4, g4, k4, hg4, hcs4⟩ := P4.core hi
    rw [setC_core HI.out] at k4
    clear ht hcg HT n1 n3 hg q4 f4 htk c0 c1 c2 c3 c4 c5 c6 c7 c8 hpF HPG HC3 HP2
    have hq4 := P4.hq
    unfold busc at hq4
    have hb4 := k4.hb
    have hp4 := P4.hp
    rw [show (S.setC i c').ps = S.ps from rfl] at hp4
    have hp5 : (ic S.ps)[l]? = some (.int .i64 (S.ps.getD l 0)) := by
      rw [ic_get, List.getD_eq_getElem?_getD, List.getElem?_eq_getElem HPS.out]; rfl
    generalize hpv : S.ps.getD l 0 = pv at *
    have HPV := Lib.hid hpv
    clear hpv
    obtain ⟨c0, c1, c2, c3, c4, c5, c6, c7, c8⟩ := cx_cells k4.hx
    have K4 := Lib.hid k4
    obtain ⟨Fb, hs', hF, hv, hmm, ⟨ot, hot, hmt⟩, htm, hvt⟩ := k4.co.at_
    have htm' : onA Hs.xs hs' = (S.core i).tm := htm.trans (take_tm HTK.out)
    have hlk := look_tm (mt := x4.mt) hmt l
    have hxs := hsOf_tm htm' l
    have hv0 := hsOf_vq hvt l
    have hlen : (hsOf l hs').xs.length ≤ N := by
      rw [hxs]; unfold sentOf
      cases e : lookA (l : Int) (S.core i).tm with
      | none => simp
      | some u => exact HTL.out _ (lookA_mem e)
    obtain ⟨R, r1, r2, r3⟩ := foot_at l hs'
    have hF0 : ∀ z ∈ (hsOf l hs').F, z ∈ g4 := fun z hz => hF.mem_iff.2 (by simp [r1.mem_iff, hz])
    have ca := ((Chg.refl [] w4).alloc (.cells #[.int .i64 (pv)] 3)).drew
    have esz : (w4.alloc (.cells #[.int .i64 (pv)] 3)).drew.heap.size = w4.heap.size + 1 := by
      show (w4.alloc (.cells #[.int .i64 (pv)] 3)).heap.size = _
      simp
    obtain ⟨F', cap', A', w5, happ, hv5, hF5, hc5⟩ := (hv0.keep ca (by simp)).app (ty := 57) eltI (q := bc) ((old hb4).chg ca) (fun h => k4.nb (hF0 _ h)) (int_sl (x := pv) (w := (w4.alloc (.cells #[.int .i64 (pv)] 3)).drew) (b := w4.heap.size) (T := 3) (f := (0, 0)) (by simp)) (c := 1) rfl (by omega) (by unfold maxLen; omega)
    rw [esz] at hF5
    obtain ⟨o', ho', hput⟩ := put_tm (mt := x4.mt) hmt l ⟨F', A', cap', (hsOf l hs').xs ++ [pv]⟩
    simp only [List.length_append, List.length_singleton] at hput
    have hmg : x4.mt ∈ g4 := hF.mem_iff.2 (by simp)
    have hmtF : x4.mt ∉ (hsOf l hs').F := fun h => by
      have hnd := hF.nodup_iff.1 k4.nd
      simp only [List.nodup_cons, List.mem_append] at hnd
      exact hnd.2.1 (.inr (r1.mem_iff.2 (by simp [h])))
    have hot5 := hc5.keep (ca.keep hot (by simp)) hmtF
    have hb5 := hc5.keep (ca.keep hb4 (by simp)) (fun h => k4.nb (hF0 _ h))
    have n5 := hc5.keep (ca.keep n4 (by simp)) (fun h => hpF4 (P4.per.mem_iff.2 (List.mem_append.2 (.inr (List.mem_flatten.2 ⟨g4, List.mem_of_getElem? hg4, hF0 _ h⟩)))))
    have W : CoTo w4 bc i xs4 g4 (c'.sendE l (pv)) (setB w5 x4.mt o') := by
      have d5 : Chg (hsOf l hs').F w4 (setB w5 x4.mt o') → True := fun _ => trivial
      have e5 : Chg (x4.mt :: (hsOf l hs').F) w4 (setB w5 x4.mt o') := ((ca.mono (by simp)).trans (hc5.mono (fun z hz => .inl (by simp [hz])))).setB _ _ (.inl (by simp))
      have v5 : Vq 1 3 intEnc (setB w5 x4.mt o') F' A' cap' ((hsOf l hs').xs ++ [pv]) := hv5.keep ((Chg.refl [x4.mt] w5).setB _ _ (.inl (by simp))) (fun z hz => by
        have := (k4.co.old _ hmg).lt
        rcases hF5 z hz with h | h
        · simp; rintro rfl; exact hmtF h
        · simp; omega)
      have := k4.madeT (hs2 := putA (l : Int) ⟨F', A', cap', (hsOf l hs').xs ++ [pv]⟩ hs') hF hv hmm hvt r1 (r2 _).1 (fun z hz => (hF5 z hz).imp id (fun h => by omega)) hv5.nodup e5 ⟨o', by rw [heap_setB, if_pos rfl, hot5]; rfl, ho'⟩ (fun u hu => by
        rcases (r2 _).2 u hu with h | h
        · subst h; exact .inl v5
        · exact .inr h)
      have e6 : onA Hs.xs (putA (l : Int) ⟨F', A', cap', (hsOf l hs').xs ++ [pv]⟩ hs') = (c'.sendE l (pv)).tm := by
        have := putA_on Hs.xs (l : Int) ⟨F', A', cap', (hsOf l hs').xs ++ [pv]⟩ hs'
        rw [← this, htm, hsOf_tm htm]; rfl
      rw [e6] at this
      exact this
    have HW := Lib.hid W
    have HP4 := Lib.hid P4
    clear W P4 k4 hF hv hmm hvt hmt htm htm' hxs hv0 hlen r1 r2 r3 hF0 hv5 hF5 hc5 ho' hmg hmtF esz HS HTL hcs4 hpF4 hpo4
    go_region
    go_wp2_with fail
    go_ret
    have e0 : S.sendS i l = some (S.setC i (c'.sendE l pv)) := by
      unfold Bs.sendS
      rw [show (S.core i).takeE ⟨true, l, 0, 0⟩ = some c' from HTK.out, HPV.out]
    rw [e0]
    refine ⟨rfl, ?_⟩
    obtain ⟨F6, xs6, G6, P6, q6, f6⟩ := HP4.out.setc hg4 HW.out
    rw [setC_setC] at P6
    exact (((show BusTo n m w4 q F4 (S.setC i (c'.sendE l pv)) _ from ⟨F6, ⟨_, _, _, _, _, _, _, _, P6⟩, q6, f6⟩).on Q4.out FF4.out).of C3.out).of N3.out
end
end Go.Proofs.Ytnocekhgabgffaa
