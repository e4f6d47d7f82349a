/- A line that is pushed: walked. No condition. -/
import Derived.Test.YtnocekhgabgffaaBud
namespace Go.Proofs.Ytnocekhgabgffaa
open Go.RowKit
set_option linter.unusedVariables false
set_option maxHeartbeats 1000000

set_option maxRecDepth 100000
attribute [local go_sem ↓] append_appS copy_copS clear_clrS make_mkS slice_slS lookup_lookS mput_mputS del_mdelS cell_row frozen_row heap_drew heap_drewN heap_alloc heap_past heap_setCell heap_putRow heap_setB loadEv storeEv loadBe storeBe loadSp storeSp loadNw storeNw loadLine storeLine evc_kd evc_co evc_li evc_wo evc_va bec_fl bec_li bec_wo bec_va nwC_0 nwC_1 spC_0 spC_1
attribute [local go_sem] rowCell_some rowFrozen_some rowHas_some rowIn_some rowPart_full rowPart_lit rowPut_full rowPut_lit rowSet_some size_putRow size_setB run_loadS run_storeS run_appS run_copS run_clrS run_mkS run_slS run_lookS run_mputS run_mdelS loadW_at storeW_at fit_all fit_le one_int one_bool one_pointer one_slice allOne_list putRow_new ne_size1 ne_size2 ne_size3 ne_size4 wideEv wideBe wideSp wideNw wideLine evc_size evc_one evc_ne evc_lit evc_z fold_evc bec_size bec_one bec_lit bec_ne bec_at bec_in spC_size spC_one nwC_size nwC_one nwC_ne nwC_set0 nwC_set1 nwC_lit bec_set0 bec_set1 bec_set2 bec_set3 spC_set0 spC_set1 spC_lit fold_spC spC_ne fold_nwC fold_bec fold_at vs_size vs_one ic_size ic_get
attribute [local simp ↓] heap_drew heap_drewN heap_alloc heap_past heap_setCell heap_putRow heap_setB
attribute [local simp] rowCell_some rowFrozen_some rowHas_some rowIn_some rowPart_full rowPart_lit rowPut_full rowPut_lit rowSet_some size_putRow size_setB fit_all putRow_new ne_size1 ne_size2 ne_size3 ne_size4 evc_size bec_size spC_size nwC_size vs_size fit_le
section
variable {n m : Nat} {w : World} {q : Nat} {F : List Nat} {S : Bs}
theorem push_ev (h : BusM n m w q F S) {N : Nat} (ok : S.Ok n m N) (hN : N ≤ 1000000) {l : Nat} (hl : l < n) (kd co wo va : Int) : Calls Try.prog 48 #[.pointer (some ⟨q, 0, none⟩), .agg (evc ⟨kd, co, l, wo, va⟩)] w fun r w' => r = .returned (.bool true) ∧ BusTo n m w q F (S.push l) w' := by
  obtain ⟨bl, cl, kb, bp, bc, bm, xs, G, P0⟩ := h
  obtain ⟨n1, n2⟩ := one_new w (.cells (evc ⟨kd, co, l, wo, va⟩) 41)
  have P := P0.keep n2 (by simp)
  have hpF : ∀ z ∈ F, z ≠ w.heap.size := fun z hz e => by have := P0.old z hz; omega
  have N2 := Lib.hid n2
  clear n2 P0
  go_enter Try.func48, Try.ntmps48
  go_upto_region 1 with fail
  generalize w.alloc (.cells (evc ⟨kd, co, l, wo, va⟩) 41) = w1 at *
  generalize w.heap.size = p at *
  have hq := P.hq
  unfold busc at hq
  have HP := Lib.hid P
  have l0 : (0 : Int) ≤ (l : Int) := by omega
  have l1 : (l : Int) < (n : Int) := by omega
  have hps : l < S.ps.length := by rw [ok.ps]; exact hl
  have hp4 := P.hp
  have hp5 : (ic S.ps)[l]? = some (.int .i64 (S.ps.getD l 0)) := by
    rw [ic_get, List.getD_eq_getElem?_getD, List.getElem?_eq_getElem hps]; rfl
  have hpb : 0 ≤ S.ps.getD l 0 ∧ S.ps.getD l 0 ≤ 1000000 := by
    rw [List.getD_eq_getElem?_getD, List.getElem?_eq_getElem hps]
    have := ok.pb _ (List.getElem_mem hps)
    simp only [Option.getD_some]
    omega
  obtain ⟨hb0, hb1⟩ := hpb
  generalize hpv : S.ps.getD l 0 = pv at *
  have HPV := Lib.hid hpv
  have hmem := P.mem
  obtain ⟨hne, _⟩ := P.ne
  simp only [List.nodup_cons, List.mem_cons, List.not_mem_nil, or_false, not_or, List.nodup_nil] at hne
  obtain ⟨⟨a1, a2, a3, a4, a5⟩, ⟨b2, b3, b4, b5⟩, ⟨c3, c4, c5⟩, _⟩ := hne
  have hkp : kb ≠ p := hpF kb (hmem _ (by simp))
  have hbp : bp ≠ p := hpF bp (hmem _ (by simp))
  have HKP := Lib.hid hkp
  have HBP := Lib.hid hbp
  have HA2 := Lib.hid a2
  have HA3 := Lib.hid a3
  have HC3 := Lib.hid c3
  -- the last part, from any world on
  have tl : ∀ (w2 : World) (T : Bs), BusP n m w2 q F T bl cl kb bp bc bm xs G → T.ps = S.ps → ∀ w3, w3 = w2.setCell ⟨bp, l, none⟩ (.int .i64 (pv + 1)) → BusTo n m w2 q F { T with ps := S.ps.set l (pv + 1) } w3 := by
    intro w2 T PT hT w3 hw
    subst hw
    have c : Chg [bp] w2 (w2.setCell ⟨bp, l, none⟩ (.int .i64 (pv + 1))) := (Chg.refl [bp] w2).setCell _ _ _ (.inl (by simp))
    refine ⟨F, ⟨_, _, _, _, _, _, _, _, PT.setp c ?_⟩, c.mono (fun z hz => .inl ?_), fun b hb => .inl hb⟩
    · rw [heap_setCell, if_pos rfl, PT.hp, rowSet_some, ic_set, hT]
    · simp only [List.mem_singleton] at hz; subst hz; exact PT.mem _ (by simp)
  have TL := Lib.hid tl
  clear tl hpv hmem hkp hbp a1 a2 a3 a4 a5 b2 b3 b4 b5 c3 c4 c5 hpF hps
  have hls := ok.ls
  have hks := ok.ks
  obtain ⟨r, hr⟩ := P.hl
  have hk := P.hk
  have f1 : Fit (l * 8) 8 S.ls.length := by unfold Fit; omega
  have f2 : Fit (l * 8) 8 S.ks.length := by unfold Fit; omega
  have p1 := rowPart_bk f1 r 44 (0, 0)
  have p2 := rowIn_bk f1 r 44 (0, 0)
  have p3 := rowHas_bk f2 [] 44
  have ll := ln_length S.ls l f1
  have p4 := rowPut_bk (xs := S.ks) (l := ln S.ls l) (i := l) (by rw [ll]; exact f2) [] 44 (0, 0)
  have LL := Lib.hid ll
  by_cases hv : S.vol ≤ l
  · have t1 : ((S.vol : Nat) : Int) ≤ (l : Int) := by omega
    have HV := Lib.hid hv
    have hk2 : (putRow w1.drew.drew kb (l * 8) (vs (ln S.ls l))).heap[kb]? = some (.cells (bk (lnPut S.ks l (ln S.ls l)) []) 44 (0, 0)) := by
      have hk0 : w1.drew.drew.heap[kb]? = _ := hk
      rw [heap_putRow _ _ _ _ _ (by rw [hk0, vs_size, ll]; exact p3), if_pos rfl, hk0, p4]
    have d2 : Chg [kb] w1 (putRow w1.drew.drew kb (l * 8) (vs (ln S.ls l))) := (((Chg.refl [kb] w1).drew).drew).putRow _ _ _ (.inl (by simp))
    have HK2 := Lib.hid hk2
    have D2 := Lib.hid d2
    have hlen : (ln S.ls l).length = 8 := ll
    clear P ok hls hks f1 f2 hl hk2 d2 hv ll
    go_region
    go_upto_region 2 with fail
    go_region
    have hq := D2.out.keep hq (by simpa using HA2.out)
    have hp4 := D2.out.keep hp4 (by simpa using Ne.symm HC3.out)
    have n1 := D2.out.keep n1 (by simpa using Ne.symm HKP.out)
    have P3 := Lib.hid (HP.out.setk D2.out HK2.out)
    generalize putRow w1.drew.drew kb (l * 8) (vs (ln S.ls l)) = w3 at *
    go_upto_region 3 with fail
    go_region
    go_wp2_with fail
    go_ret
    refine ⟨rfl, ?_⟩
    have := TL.out w3.drew _ (P3.out.keep ((Chg.refl [] w3).drew) (by simp)) rfl _ rfl
    have e0 : S.push l = { ({ S with ks := lnPut S.ks l (ln S.ls l) } : Bs) with ps := S.ps.set l (pv + 1) } := by
      unfold Bs.push; rw [if_pos HV.out, HPV.out]
    rw [e0]
    have dd : Chg F w1 w3.drew := (D2.out.drew).mono (fun z hz => .inl (by simp only [List.mem_singleton] at hz; subst hz; exact HP.out.mem _ (by simp)))
    exact (this.on dd (fun b hb => .inl hb)).of N2.out
  · have t1 : ¬ ((S.vol : Nat) : Int) ≤ (l : Int) := by omega
    have HV := Lib.hid hv
    clear P ok hls hks f1 f2 hl hv ll p1 p2 p3 p4
    go_region
    go_upto_region 3 with fail
    go_region
    go_wp2_with fail
    go_ret
    refine ⟨rfl, ?_⟩
    have := TL.out w1.drew.drew _ (HP.out.keep (((Chg.refl [] w1).drew).drew) (by simp)) rfl _ rfl
    have e0 : S.push l = { S with ps := S.ps.set l (pv + 1) } := by
      unfold Bs.push; rw [if_neg HV.out, HPV.out]
    rw [e0]
    exact (this.of (((Chg.refl [] w1).drew).drew)).of N2.out
end
end Go.Proofs.Ytnocekhgabgffaa
