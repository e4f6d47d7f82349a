/- Texts of the walk, one behind the other: Buk Bul Buu Rbk Rbl Ora Buv Bur Bwk. No condition. -/
import Derived.Test.YtnocekhgabgffaaOCab
import Derived.Test.YtnocekhgabgffaaOCac
import Derived.Test.YtnocekhgabgffaaOCae
import Derived.Test.YtnocekhgabgffaaOCaf
import Derived.Test.YtnocekhgabgffaaOCag
import Derived.Test.YtnocekhgabgffaaOCah
section
namespace Go.Proofs.Ytnocekhgabgffaa
open Go.RowKit
set_option linter.unusedVariables false
set_option maxHeartbeats 1000000

set_option maxRecDepth 100000
attribute [local go_sem ↓] append_appS copy_copS clear_clrS make_mkS slice_slS lookup_lookS mput_mputS del_mdelS cell_row frozen_row heap_drew heap_drewN heap_alloc heap_past heap_setCell heap_putRow heap_setB loadEv storeEv loadBe storeBe loadSp storeSp loadNw storeNw loadLine storeLine evc_kd evc_co evc_li evc_wo evc_va bec_fl bec_li bec_wo bec_va nwC_0 nwC_1 spC_0 spC_1
attribute [local go_sem] rowCell_some rowFrozen_some rowHas_some rowIn_some rowPart_full rowPart_lit rowPut_full rowPut_lit rowSet_some size_putRow size_setB run_loadS run_storeS run_appS run_copS run_clrS run_mkS run_slS run_lookS run_mputS run_mdelS loadW_at storeW_at fit_all fit_le one_int one_bool one_pointer one_slice allOne_list putRow_new ne_size1 ne_size2 ne_size3 ne_size4 wideEv wideBe wideSp wideNw wideLine evc_size evc_one evc_ne evc_lit evc_z fold_evc bec_size bec_one bec_lit bec_ne bec_at bec_in spC_size spC_one nwC_size nwC_one nwC_ne nwC_set0 nwC_set1 nwC_lit bec_set0 bec_set1 bec_set2 bec_set3 spC_set0 spC_set1 spC_lit fold_spC spC_ne fold_nwC fold_bec fold_at vs_size vs_one ic_size ic_get
attribute [local simp ↓] heap_drew heap_drewN heap_alloc heap_past heap_setCell heap_putRow heap_setB
attribute [local simp] rowCell_some rowFrozen_some rowHas_some rowIn_some rowPart_full rowPart_lit rowPut_full rowPut_lit rowSet_some size_putRow size_setB fit_all putRow_new ne_size1 ne_size2 ne_size3 ne_size4 evc_size bec_size spC_size nwC_size vs_size fit_le
theorem cell_of_part {C : Array Value} {T : TypeId} {f : Nat × Nat} {o : Nat} {v : Value} (h : rowPart (some (.cells C T f)) o 1 = #[v]) : C[o]? = some v := by
  rw [rowPart_some] at h
  have h2 : (C.toList.drop o).take 1 = [v] := by simpa using congrArg Array.toList h
  have h3 := congrArg (fun l => l[0]?) h2
  simpa [List.getElem?_take, List.getElem?_drop] using h3
section
variable {n m : Nat} {w : World} {q : Nat} {F : List Nat} {S : Bs}
def Bs.ansS (S : Bs) (i l : Nat) : Option Bs :=
  match sentOf (S.core i) l with
  | [] => none
  | a :: _ => if a = S.ps.getD l 0 then none else some (S.setC i ((S.core i).ansE l))
theorem answer_ev (h : BusM n m w q F S) {N : Nat} (ok : S.Ok n m N) (hN : N ≤ 1000000) {i l : Nat} (hi : i < m) (hl : l < n) (kd wo va : Int) : Calls Try.prog 49 #[.pointer (some ⟨q, 0, none⟩), .agg (evc ⟨kd, i, l, wo, va⟩)] w fun r w' => r = .returned (.bool (S.ansS i l).isSome) ∧ BusTo n m w q F ((S.ansS i l).getD S) w' := by
  obtain ⟨bl, cl, kb, bp, bc, bm, xs, G, P0⟩ := h
  obtain ⟨n1, n2⟩ := one_new w (.cells (evc ⟨kd, i, l, wo, va⟩) 41)
  have P := P0.keep n2 (by simp)
  have hpF : ∀ z ∈ F, z ≠ w.heap.size := fun z hz e => by have := P0.old z hz; omega
  have N2 := Lib.hid n2
  clear n2 P0
  go_enter Try.func49, Try.ntmps49
  go_upto_region 1 with fail
  generalize w.alloc (.cells (evc ⟨kd, i, l, wo, va⟩) 41) = w1 at *
  generalize w.heap.size = p at *
  have hq := P.hq
  unfold busc at hq
  obtain ⟨x, g, hco, hg, hcs⟩ := P.core hi
  have hcb := hco.hb
  obtain ⟨c0, c1, c2, c3, c4, c5, c6, c7, c8⟩ := cx_cells hco.hx
  rw [hco.co.st] at c3
  have i0 : (0 : Int) ≤ (i : Int) := by omega
  have i1 : (i : Int) < (m : Int) := by omega
  have hsm := ok.cb _ (List.mem_of_getElem? hcs)
  have htl := hsm.tm
  have HCO := Lib.hid hco
  have HP := Lib.hid P
  have l0 : (0 : Int) ≤ (l : Int) := by omega
  have l1 : (l : Int) < (n : Int) := by omega
  have hps : l < S.ps.length := by rw [ok.ps]; exact hl
  have hp4 := P.hp
  have hp5 : (ic S.ps)[l]? = some (.int .i64 (S.ps.getD l 0)) := by
    rw [ic_get, List.getD_eq_getElem?_getD, List.getElem?_eq_getElem hps]; rfl
  generalize hpv : S.ps.getD l 0 = pv at *
  have HPV := Lib.hid hpv
  clear hpv hps ok
  obtain ⟨Fb, hs', hF, hv, hmm, ⟨ot, hot, hmt⟩, htm, hvt⟩ := hco.co.at_
  have hlk := look_tm (mt := x.mt) hmt l
  have hxs := hsOf_tm htm l
  have hv0 := hsOf_vq hvt l
  have hle0 := hv0.le
  have hlen : (hsOf l hs').xs.length ≤ N := by
    rw [hxs]; unfold sentOf
    cases e : lookA (l : Int) (S.core i).tm with
    | none => simp
    | some u => exact htl _ (lookA_mem e)
  obtain ⟨R, r1, r2, r3⟩ := foot_at l hs'
  have hF0 : ∀ z ∈ (hsOf l hs').F, z ∈ g := fun z hz => hF.mem_iff.2 (by simp [r1.mem_iff, hz])
  have hmg : x.mt ∈ g := hF.mem_iff.2 (by simp)
  have hmtF : x.mt ∉ (hsOf l hs').F := fun h => by
    have hnd := hF.nodup_iff.1 hco.nd
    simp only [List.nodup_cons, List.mem_append] at hnd
    exact hnd.2.1 (.inr (r1.mem_iff.2 (by simp [h])))
  have hmb : x.mt ≠ bc := fun e => hco.nb (e ▸ hmg)
  have hgF : ∀ z ∈ g, z ∈ F := fun z hz => P.per.mem_iff.2 (List.mem_append.2 (.inr (List.mem_flatten.2 ⟨g, List.mem_of_getElem? hg, hz⟩)))
  have hmp : x.mt ≠ p := hpF _ (hgF _ hmg)
  have HF := Lib.hid hF
  have HV := Lib.hid hv
  have HMM := Lib.hid hmm
  have HMT := Lib.hid hmt
  have HTM := Lib.hid htm
  have HVT := Lib.hid hvt
  have HF0 := Lib.hid hF0
  have HR1 := Lib.hid r1
  have HR2 := Lib.hid r2
  have HR3 := Lib.hid r3
  have HMF := Lib.hid hmtF
  clear hF hv hmm htm hvt hF0 r1 r2 r3 hmg hgF htl hsm hcs hmtF
  cases hsx : (hsOf l hs').xs with
  | nil =>
    rw [hsx] at hlk hxs
    have HXS := Lib.hid hxs
    simp only [List.length_nil] at hlk
    have HM := Lib.hid (show BusM n m w1 q F S from ⟨_, _, _, _, _, _, _, _, P⟩)
    clear P hco hp4 hp5 hmt hv0 hlen hxs hle0
    go_region
    go_upto_region 2 with fail
    go_region
    go_upto_region 3 with fail
    go_region
    go_wp2_with fail
    go_ret
    have e0 : S.ansS i l = none := by unfold Bs.ansS; rw [← HXS.out]
    rw [e0]
    exact ⟨rfl, (HM.out.to ((((Chg.refl [] w1).drew).drew).drew)).of N2.out⟩
  | cons a rest =>
    rw [hsx] at hlk hxs hv0 hlen hle0
    have HXS := Lib.hid hxs
    have HSX := Lib.hid hsx
    obtain ⟨be, o, C, hFe, hA, hbe, hin, hpart⟩ := hv0.first intEnc_len
    have hvt0 := hv0.tail intEnc_len
    have hC := cell_of_part (show rowPart (some (.cells C 3 (0, 0))) o 1 = #[.int .i64 a] from hpart)
    simp only [List.length_cons] at hlk hlen hle0
    have HM := Lib.hid (show BusM n m w1 q F S from ⟨_, _, _, _, _, _, _, _, P⟩)
    have t0 : (((rest.length : Nat) : Int) + 1 == 0) = false := by simp; omega
    have t1 : (0 : Int) < ((rest.length : Nat) : Int) + 1 := by omega
    have HV0 := Lib.hid hvt0
    have hsl := fun w => slR_tail eltI (hsOf l hs').A rest.length (hsOf l hs').cap hle0 w
    have HA := Lib.hid hA
    have HMT2 := Lib.hid hmt
    rw [hA] at hlk
    clear P hco hmt hv0 hlen hxs hpart hsx hvt0 hA hFe hin hle0
    by_cases hap : a = pv
    · have ta : (a == pv) = true := by simpa using hap
      have e0 : S.ansS i l = none := by unfold Bs.ansS; rw [← HXS.out]; simp only; rw [HPV.out, if_pos hap]
      have E0 := Lib.hid e0
      clear hap e0 hsl
      go_region
      go_upto_region 2 with fail
      go_region
      go_upto_region 3 with fail
      go_region
      go_wp2_with fail
      go_ret
      rw [E0.out]
      exact ⟨rfl, (HM.out.to ((((Chg.refl [] w1).drew).drew).drew)).of N2.out⟩
    · have ta : (a == pv) = false := by simpa using hap
      have e0 : S.ansS i l = some (S.setC i ((S.core i).ansE l)) := by unfold Bs.ansS; rw [← HXS.out]; simp only; rw [HPV.out, if_neg hap]
      have E0 := Lib.hid e0
      rw [HA.out] at hsl
      obtain ⟨o', ho', hput⟩ := put_tm (mt := x.mt) HMT.out l ⟨(hsOf l hs').F, behind 1 (hsOf l hs').A (hsOf l hs').cap, (hsOf l hs').cap - 1, rest⟩
      simp only [HA.out] at hput
      have HO' := Lib.hid ho'
      clear hap e0 ho'
      go_region
      go_upto_region 2 with fail
      go_region
      go_upto_region 3 with fail
      go_region
      go_upto_region 5 with fail
      go_region
      have d5 : Chg [x.mt] w1 (setB w1.drew.drew.drew.drew x.mt o') := (((((Chg.refl [x.mt] w1).drew).drew).drew).drew).setB _ _ (.inl (by simp))
      have ot5 : (setB w1.drew.drew.drew.drew x.mt o').heap[x.mt]? = some o' := by rw [heap_setB, if_pos rfl]; simp only [heap_drew]; rw [hot]; rfl
      generalize setB w1.drew.drew.drew.drew x.mt o' = w5 at *
      have n5 := d5.keep n1 (by simpa using Ne.symm hmp)
      have hb5 := d5.keep hcb (by simpa using Ne.symm hmb)
      have D5 := Lib.hid d5
      have OT5 := Lib.hid ot5
      have hFn : (hsOf l hs').F.Nodup := (hsOf_vq HVT.out l).nodup
      have HFN := Lib.hid hFn
      have sxs : (hsOf (l : Int) hs').xs = sentOf (S.core i) l := hsOf_tm HTM.out l
      have stl : (sentOf (S.core i) l).tail = rest := by rw [← sxs, HSX.out]; rfl
      have sln : (sentOf (S.core i) l).length = rest.length + 1 := by rw [← sxs, HSX.out]; rfl
      have STL := Lib.hid stl
      have SLN := Lib.hid sln
      clear d5 n1 hcb hot hlk hput hFn sxs stl sln
      have vq5 : ∀ w', Chg [x.mt] w5 w' → Vq 1 3 intEnc w' (hsOf l hs').F (behind 1 (hsOf l hs').A (hsOf l hs').cap) ((hsOf l hs').cap - 1) rest := fun w' hc => ((HV0.out.keep D5.out (fun z hz => by simp; rintro rfl; exact HMF.out hz))).keep hc (fun z hz => by simp; rintro rfl; exact HMF.out hz)
      have VQ5 := Lib.hid vq5
      clear vq5
      by_cases hr : rest.length = 0
      · have t3 : (((rest.length : Nat) : Int) + 1 == 1) = true := by rw [hr]; rfl
        obtain ⟨o6, ho6, hdel⟩ := del_tm (mt := x.mt) HO'.out l 0
        have HO6 := Lib.hid ho6
        have HR := Lib.hid hr
        clear ho6 hr
        go_wp2_with fail
        go_region
        go_wp2_with fail
        go_ret
        rw [E0.out]
        refine ⟨rfl, ?_⟩
        have d6 : Chg [x.mt] w5 (setB w5.drew x.mt o6) := ((Chg.refl [x.mt] w5).drew).setB _ _ (.inl (by simp))
        have ht := HCO.out.madeT (w' := setB w5.drew x.mt o6) (hs2 := dropA (l : Int) (putA (l : Int) ⟨(hsOf l hs').F, behind 1 (hsOf l hs').A (hsOf l hs').cap, (hsOf l hs').cap - 1, rest⟩ hs')) (F2 := []) HF.out HV.out HMM.out HVT.out HR1.out (HR3.out _).1 (by simp) (by simp) ((D5.out.trans d6).mono (fun z hz => .inl (by simp at hz; simp [hz]))) ⟨o6, by rw [heap_setB, if_pos rfl, heap_drew, OT5.out]; rfl, HO6.out⟩ (fun u hu => .inr ((HR3.out _).2 u hu))
        rw [show onA Hs.xs (dropA (l : Int) (putA (l : Int) ⟨(hsOf l hs').F, behind 1 (hsOf l hs').A (hsOf l hs').cap, (hsOf l hs').cap - 1, rest⟩ hs')) = ((S.core i).ansE l).tm by
          rw [← dropA_on, ← putA_on, HTM.out]
          unfold Bc.ansE
          simp only [SLN.out, STL.out, HR.out, if_true]] at ht
        obtain ⟨F6, xs6, G6, P6, q6, f6⟩ := HP.out.setc hg (c' := (S.core i).ansE l) ht
        exact (show BusTo n m w1 q F (S.setC i ((S.core i).ansE l)) _ from ⟨F6, ⟨_, _, _, _, _, _, _, _, P6⟩, q6, f6⟩).of N2.out
      · have t3 : (((rest.length : Nat) : Int) + 1 == 1) = false := by simp; omega
        have HR := Lib.hid hr
        clear hr
        go_wp2_with fail
        go_ret
        rw [E0.out]
        refine ⟨rfl, ?_⟩
        have ht := HCO.out.madeT (w' := w5) (hs2 := putA (l : Int) ⟨(hsOf l hs').F, behind 1 (hsOf l hs').A (hsOf l hs').cap, (hsOf l hs').cap - 1, rest⟩ hs') (F2 := (hsOf l hs').F) HF.out HV.out HMM.out HVT.out HR1.out (HR2.out _).1 (fun z hz => .inl hz) HFN.out (D5.out.mono (fun z hz => .inl (by simp at hz; simp [hz]))) ⟨o', OT5.out, HO'.out⟩ (fun u hu => by
          rcases (HR2.out _).2 u hu with h | h
          · subst h; exact .inl (VQ5.out w5 (Chg.refl _ _))
          · exact .inr h)
        rw [show onA Hs.xs (putA (l : Int) ⟨(hsOf l hs').F, behind 1 (hsOf l hs').A (hsOf l hs').cap, (hsOf l hs').cap - 1, rest⟩ hs') = ((S.core i).ansE l).tm by
          rw [← putA_on, HTM.out]
          unfold Bc.ansE
          simp only [SLN.out, STL.out]
          rw [if_neg (by have := HR.out; omega)]] at ht
        obtain ⟨F6, xs6, G6, P6, q6, f6⟩ := HP.out.setc hg (c' := (S.core i).ansE l) ht
        exact (show BusTo n m w1 q F (S.setC i ((S.core i).ansE l)) _ from ⟨F6, ⟨_, _, _, _, _, _, _, _, P6⟩, q6, f6⟩).of N2.out
end
end Go.Proofs.Ytnocekhgabgffaa
end
section
namespace Go.Proofs.Ytnocekhgabgffaa
open Go.RowKit
set_option linter.unusedVariables false
set_option maxHeartbeats 1000000

set_option maxRecDepth 100000
attribute [local go_sem ↓] append_appS copy_copS clear_clrS make_mkS slice_slS lookup_lookS mput_mputS del_mdelS cell_row frozen_row heap_drew heap_drewN heap_alloc heap_past heap_setCell heap_putRow heap_setB loadEv storeEv loadBe storeBe loadSp storeSp loadNw storeNw loadLine storeLine evc_kd evc_co evc_li evc_wo evc_va bec_fl bec_li bec_wo bec_va nwC_0 nwC_1 spC_0 spC_1
attribute [local go_sem] rowCell_some rowFrozen_some rowHas_some rowIn_some rowPart_full rowPart_lit rowPut_full rowPut_lit rowSet_some size_putRow size_setB run_loadS run_storeS run_appS run_copS run_clrS run_mkS run_slS run_lookS run_mputS run_mdelS loadW_at storeW_at fit_all fit_le one_int one_bool one_pointer one_slice allOne_list putRow_new ne_size1 ne_size2 ne_size3 ne_size4 wideEv wideBe wideSp wideNw wideLine evc_size evc_one evc_ne evc_lit evc_z fold_evc bec_size bec_one bec_lit bec_ne bec_at bec_in spC_size spC_one nwC_size nwC_one nwC_ne nwC_set0 nwC_set1 nwC_lit bec_set0 bec_set1 bec_set2 bec_set3 spC_set0 spC_set1 spC_lit fold_spC spC_ne fold_nwC fold_bec fold_at vs_size vs_one ic_size ic_get
attribute [local simp ↓] heap_drew heap_drewN heap_alloc heap_past heap_setCell heap_putRow heap_setB
attribute [local simp] rowCell_some rowFrozen_some rowHas_some rowIn_some rowPart_full rowPart_lit rowPut_full rowPut_lit rowSet_some size_putRow size_setB fit_all putRow_new ne_size1 ne_size2 ne_size3 ne_size4 evc_size bec_size spC_size nwC_size vs_size fit_le
section
variable {n m : Nat} {w : World} {q : Nat} {F : List Nat} {S : Bs}
theorem push_ev (h : BusM n m w q F S) {N : Nat} (ok : S.Ok n m N) (hN : N ≤ 1000000) {l : Nat} (hl : l < n) (kd co wo va : Int) : Calls Try.prog 48 #[.pointer (some ⟨q, 0, none⟩), .agg (evc ⟨kd, co, l, wo, va⟩)] w fun r w' => r = .returned (.bool true) ∧ BusTo n m w q F (S.push l) w' := by
  obtain ⟨bl, cl, kb, bp, bc, bm, xs, G, P0⟩ := h
  obtain ⟨n1, n2⟩ := one_new w (.cells (evc ⟨kd, co, l, wo, va⟩) 41)
  have P := P0.keep n2 (by simp)
  have hpF : ∀ z ∈ F, z ≠ w.heap.size := fun z hz e => by have := P0.old z hz; omega
  have N2 := Lib.hid n2
  clear n2 P0
  go_enter Try.func48, Try.ntmps48
  go_upto_region 1 with fail
  generalize w.alloc (.cells (evc ⟨kd, co, l, wo, va⟩) 41) = w1 at *
  generalize w.heap.size = p at *
  have hq := P.hq
  unfold busc at hq
  have HP := Lib.hid P
  have l0 : (0 : Int) ≤ (l : Int) := by omega
  have l1 : (l : Int) < (n : Int) := by omega
  have hps : l < S.ps.length := by rw [ok.ps]; exact hl
  have hp4 := P.hp
  have hp5 : (ic S.ps)[l]? = some (.int .i64 (S.ps.getD l 0)) := by
    rw [ic_get, List.getD_eq_getElem?_getD, List.getElem?_eq_getElem hps]; rfl
  have hpb : 0 ≤ S.ps.getD l 0 ∧ S.ps.getD l 0 ≤ 1000000 := by
    rw [List.getD_eq_getElem?_getD, List.getElem?_eq_getElem hps]
    have := ok.pb _ (List.getElem_mem hps)
    simp only [Option.getD_some]
    omega
  obtain ⟨hb0, hb1⟩ := hpb
  generalize hpv : S.ps.getD l 0 = pv at *
  have HPV := Lib.hid hpv
  have hmem := P.mem
  obtain ⟨hne, _⟩ := P.ne
  simp only [List.nodup_cons, List.mem_cons, List.not_mem_nil, or_false, not_or, List.nodup_nil] at hne
  obtain ⟨⟨a1, a2, a3, a4, a5⟩, ⟨b2, b3, b4, b5⟩, ⟨c3, c4, c5⟩, _⟩ := hne
  have hkp : kb ≠ p := hpF kb (hmem _ (by simp))
  have hbp : bp ≠ p := hpF bp (hmem _ (by simp))
  have HKP := Lib.hid hkp
  have HBP := Lib.hid hbp
  have HA2 := Lib.hid a2
  have HA3 := Lib.hid a3
  have HC3 := Lib.hid c3
  -- the last part, from any world on
  have tl : ∀ (w2 : World) (T : Bs), BusP n m w2 q F T bl cl kb bp bc bm xs G → T.ps = S.ps → ∀ w3, w3 = w2.setCell ⟨bp, l, none⟩ (.int .i64 (pv + 1)) → BusTo n m w2 q F { T with ps := S.ps.set l (pv + 1) } w3 := by
    intro w2 T PT hT w3 hw
    subst hw
    have c : Chg [bp] w2 (w2.setCell ⟨bp, l, none⟩ (.int .i64 (pv + 1))) := (Chg.refl [bp] w2).setCell _ _ _ (.inl (by simp))
    refine ⟨F, ⟨_, _, _, _, _, _, _, _, PT.setp c ?_⟩, c.mono (fun z hz => .inl ?_), fun b hb => .inl hb⟩
    · rw [heap_setCell, if_pos rfl, PT.hp, rowSet_some, ic_set, hT]
    · simp only [List.mem_singleton] at hz; subst hz; exact PT.mem _ (by simp)
  have TL := Lib.hid tl
  clear tl hpv hmem hkp hbp a1 a2 a3 a4 a5 b2 b3 b4 b5 c3 c4 c5 hpF hps
  have hls := ok.ls
  have hks := ok.ks
  obtain ⟨r, hr⟩ := P.hl
  have hk := P.hk
  have f1 : Fit (l * 8) 8 S.ls.length := by unfold Fit; omega
  have f2 : Fit (l * 8) 8 S.ks.length := by unfold Fit; omega
  have p1 := rowPart_bk f1 r 44 (0, 0)
  have p2 := rowIn_bk f1 r 44 (0, 0)
  have p3 := rowHas_bk f2 [] 44
  have ll := ln_length S.ls l f1
  have p4 := rowPut_bk (xs := S.ks) (l := ln S.ls l) (i := l) (by rw [ll]; exact f2) [] 44 (0, 0)
  have LL := Lib.hid ll
  by_cases hv : S.vol ≤ l
  · have t1 : ((S.vol : Nat) : Int) ≤ (l : Int) := by omega
    have HV := Lib.hid hv
    have hk2 : (putRow w1.drew.drew kb (l * 8) (vs (ln S.ls l))).heap[kb]? = some (.cells (bk (lnPut S.ks l (ln S.ls l)) []) 44 (0, 0)) := by
      have hk0 : w1.drew.drew.heap[kb]? = _ := hk
      rw [heap_putRow _ _ _ _ _ (by rw [hk0, vs_size, ll]; exact p3), if_pos rfl, hk0, p4]
    have d2 : Chg [kb] w1 (putRow w1.drew.drew kb (l * 8) (vs (ln S.ls l))) := (((Chg.refl [kb] w1).drew).drew).putRow _ _ _ (.inl (by simp))
    have HK2 := Lib.hid hk2
    have D2 := Lib.hid d2
    have hlen : (ln S.ls l).length = 8 := ll
    clear P ok hls hks f1 f2 hl hk2 d2 hv ll
    go_region
    go_upto_region 2 with fail
    go_region
    have hq := D2.out.keep hq (by simpa using HA2.out)
    have hp4 := D2.out.keep hp4 (by simpa using Ne.symm HC3.out)
    have n1 := D2.out.keep n1 (by simpa using Ne.symm HKP.out)
    have P3 := Lib.hid (HP.out.setk D2.out HK2.out)
    generalize putRow w1.drew.drew kb (l * 8) (vs (ln S.ls l)) = w3 at *
    go_upto_region 3 with fail
    go_region
    go_wp2_with fail
    go_ret
    refine ⟨rfl, ?_⟩
    have := TL.out w3.drew _ (P3.out.keep ((Chg.refl [] w3).drew) (by simp)) rfl _ rfl
    have e0 : S.push l = { ({ S with ks := lnPut S.ks l (ln S.ls l) } : Bs) with ps := S.ps.set l (pv + 1) } := by
      unfold Bs.push; rw [if_pos HV.out, HPV.out]
    rw [e0]
    have dd : Chg F w1 w3.drew := (D2.out.drew).mono (fun z hz => .inl (by simp only [List.mem_singleton] at hz; subst hz; exact HP.out.mem _ (by simp)))
    exact (this.on dd (fun b hb => .inl hb)).of N2.out
  · have t1 : ¬ ((S.vol : Nat) : Int) ≤ (l : Int) := by omega
    have HV := Lib.hid hv
    clear P ok hls hks f1 f2 hl hv ll p1 p2 p3 p4
    go_region
    go_upto_region 3 with fail
    go_region
    go_wp2_with fail
    go_ret
    refine ⟨rfl, ?_⟩
    have := TL.out w1.drew.drew _ (HP.out.keep (((Chg.refl [] w1).drew).drew) (by simp)) rfl _ rfl
    have e0 : S.push l = { S with ps := S.ps.set l (pv + 1) } := by
      unfold Bs.push; rw [if_neg HV.out, HPV.out]
    rw [e0]
    exact (this.of (((Chg.refl [] w1).drew).drew)).of N2.out
end
end Go.Proofs.Ytnocekhgabgffaa
end
section
namespace Go.Proofs.Ytnocekhgabgffaa
open Go.RowKit
set_option linter.unusedVariables false
set_option maxHeartbeats 1000000

set_option maxRecDepth 100000
attribute [local go_sem ↓] append_appS copy_copS clear_clrS make_mkS slice_slS lookup_lookS mput_mputS del_mdelS cell_row frozen_row heap_drew heap_drewN heap_alloc heap_past heap_setCell heap_putRow heap_setB loadEv storeEv loadBe storeBe loadSp storeSp loadNw storeNw loadLine storeLine evc_kd evc_co evc_li evc_wo evc_va bec_fl bec_li bec_wo bec_va nwC_0 nwC_1 spC_0 spC_1
attribute [local go_sem] rowCell_some rowFrozen_some rowHas_some rowIn_some rowPart_full rowPart_lit rowPut_full rowPut_lit rowSet_some size_putRow size_setB run_loadS run_storeS run_appS run_copS run_clrS run_mkS run_slS run_lookS run_mputS run_mdelS loadW_at storeW_at fit_all fit_le one_int one_bool one_pointer one_slice allOne_list putRow_new ne_size1 ne_size2 ne_size3 ne_size4 wideEv wideBe wideSp wideNw wideLine evc_size evc_one evc_ne evc_lit evc_z fold_evc bec_size bec_one bec_lit bec_ne bec_at bec_in spC_size spC_one nwC_size nwC_one nwC_ne nwC_set0 nwC_set1 nwC_lit bec_set0 bec_set1 bec_set2 bec_set3 spC_set0 spC_set1 spC_lit fold_spC spC_ne fold_nwC fold_bec fold_at vs_size vs_one ic_size ic_get
attribute [local simp ↓] heap_drew heap_drewN heap_alloc heap_past heap_setCell heap_putRow heap_setB
attribute [local simp] rowCell_some rowFrozen_some rowHas_some rowIn_some rowPart_full rowPart_lit rowPut_full rowPut_lit rowSet_some size_putRow size_setB fit_all putRow_new ne_size1 ne_size2 ne_size3 ne_size4 evc_size bec_size spC_size nwC_size vs_size fit_le
theorem splice_left14 {α : Type} (A ys vs : List α) (o : Nat) : splice (A ++ ys) (A.length + o) vs = A ++ splice ys o vs := by
  unfold splice
  rw [List.take_append, List.take_of_length_le (by omega), Nat.add_sub_cancel_left, List.drop_append, List.drop_eq_nil_of_le (by omega), List.nil_append]
  rw [show A.length + o + vs.length - A.length = o + vs.length by omega]
  simp
theorem cx_last {xs : List Cx} {n : Nat} {x : Cx} (h : xs[n]? = some x) (e : Ev) (t : TypeId) (f : Nat × Nat) : rowPut (some (.cells (sq Cx.enc xs []) t f)) (n * 9 + 4) (evc e) = some (.cells (sq Cx.enc (xs.set n { x with la := e }) []) t f) := by
  obtain ⟨hn, rfl⟩ := List.getElem?_eq_some_iff.1 h
  have e1 : xs = xs.take n ++ xs[n] :: xs.drop (n + 1) := by rw [← List.drop_eq_getElem_cons hn, List.take_append_drop]
  have e2 : xs.set n { xs[n] with la := e } = xs.take n ++ { xs[n] with la := e } :: xs.drop (n + 1) := List.set_eq_take_append_cons_drop.trans (if_pos hn)
  have e3 : (cat Cx.enc (xs.take n)).length = n * 9 := by rw [cat_length Cx.len, List.length_take, Nat.min_eq_left (by omega)]
  have e4 : splice (Cx.enc xs[n]) 4 (Ev.enc e) = Cx.enc { xs[n] with la := e } := rfl
  rw [rowPut_some, sq_toList, show (evc e).toList = Ev.enc e by simp [evc]]
  congr 2
  unfold sq
  rw [List.append_nil, List.append_nil, e2]
  congr 1
  conv => lhs; rw [e1]
  rw [cat_append, cat_append, cat_cons, cat_cons, ← e3, splice_left14, splice_append _ _ _ _ (by rw [Cx.len]; exact Nat.le_refl _), e4]
theorem cx_hasEv {xs : List Cx} {n : Nat} (hn : n < xs.length) (t : TypeId) : rowHas (some (.cells (sq Cx.enc xs []) t (0, 0))) (n * 9 + 4) 5 = true := by
  have hm := mul_lt_of (k := 9) hn
  rw [rowHas_some, sq_size Cx.len]
  exact decide_eq_true (show _ ≤ _ by simp; omega)
theorem last_bus {n m : Nat} {w : World} {q : Nat} {F : List Nat} {S : Bs} {bl cl kb bp bc bm : Nat} {xs : List Cx} {G : List (List Nat)} (P : BusP n m w q F S bl cl kb bp bc bm xs G) {i : Nat} (hi : i < m) (e : Ev) {w' : World} (hw : w' = putRow w bc (i * 9 + 4) (evc e)) : BusTo n m w q F (S.setC i { S.core i with la := e }) w' := by
  subst hw
  obtain ⟨x, g, hco, hg, hcs⟩ := P.core hi
  have c4 : Chg [bc] w (putRow w bc (i * 9 + 4) (evc e)) := (Chg.refl [bc] w).putRow _ _ _ (.inl (by simp))
  have ht : CoTo w bc i xs g { S.core i with la := e } (putRow w bc (i * 9 + 4) (evc e)) := by
    refine ⟨{ x with la := e }, g, ?_, (hco.co.la_ e).keep c4 (fun b hb => ?_), hco.nd, fun b hb => .inl hb, c4.mono (by simp)⟩
    · rw [heap_putRow _ _ _ _ _ (by rw [hco.hb, evc_size]; exact cx_hasEv (List.getElem?_eq_some_iff.1 hco.hx).1 _), if_pos rfl, hco.hb, cx_last hco.hx]
    · simp; rintro rfl; exact hco.nb hb
  obtain ⟨F', xs', G', p1, p2, p3⟩ := P.setc hg ht
  exact ⟨F', ⟨_, _, _, _, _, _, _, _, p1⟩, p2, p3⟩
theorem call_enter14 {P : Program} {f : FuncId} {fn : Func} {c : Code} (hf : P.funcs[f]? = some fn) (hname : (fn.name == "runtime.NumGoroutine") = false) (hb : fn.body = some c) (args : Array Value) (w : World) :
    (callFunc f args).run P w = .ok (.enter f args) w := by
  have h1 : fn.name ≠ "runtime.NumGoroutine" := by simpa using hname
  simp [callFunc, hf, h1, hb]
theorem look_kind {o : Obj} (ho : IsMapO (fun k : Int => Value.int .i64 k) o kindL) (bm : Nat) (k : Int) : ∀ w', w'.heap[bm]? = some o → lookR Try.prog 87 (.map (some bm)) (.int .i64 k) true w' = .ok (.tuple #[(lookA k kindL).getD .nilFunc, .bool (lookA k kindL).isSome]) w' := fun w' h =>
  lookR_ok key_int Try.underlying87 zero_doing ho k w' h
section
variable {n m : Nat} {w : World} {q : Nat} {F : List Nat} {S : Bs}
theorem do_none (h : BusM n m w q F S) {N : Nat} (ok : S.Ok n m N) (kd co li wo va : Int) (hk : lookA kd kindL = none ∨ hasB S ⟨kd, co, li, wo, va⟩ = false) : Calls Try.prog 35 #[.pointer (some ⟨q, 0, none⟩), .agg (evc ⟨kd, co, li, wo, va⟩)] w fun r w' => r = .returned (.bool false) ∧ Chg [] w w' := by
  obtain ⟨n1, n2⟩ := one_new w (.cells (evc ⟨kd, co, li, wo, va⟩) 41)
  have hM := h.keep n2 (by simp)
  have N2 := Lib.hid n2
  clear n2 h
  go_enter Try.func35, Try.ntmps35
  go_upto_region 1 with fail
  generalize w.alloc (.cells (evc ⟨kd, co, li, wo, va⟩) 41) = w1 at *
  generalize w.heap.size = p at *
  have HM := Lib.hid hM
  obtain ⟨bl, cl, kb, bp, bc, bm, xs, G, P⟩ := hM
  have hq := P.hq
  unfold busc at hq
  obtain ⟨om, hom, hmm⟩ := P.hm
  have hlk := look_kind hmm bm kd
  clear P
  cases hl : lookA kd kindL with
  | none =>
    rw [hl] at hlk
    simp only [Option.getD_none, Option.isSome_none] at hlk
    go_upto_region 3 with fail
    go_region
    go_wp2_with fail
    go_ret
    exact ⟨rfl, N2.out.drew⟩
  | some f =>
    have hh : hasB S ⟨kd, co, li, wo, va⟩ = false := by
      rcases hk with h | h
      · rw [hl] at h; cases h
      · exact h
    rw [hl] at hlk
    simp only [Option.getD_some, Option.isSome_some] at hlk
    go_upto_region 3 with fail
    go_region
    go_wp2_with (go_at_call 57; refine (has_ev (HM.out.keep ((Chg.refl [] w1).drew) (by simp)) ok _ _ _ _ _).mono ?_; rintro e w3 ⟨rfl, c3⟩; rw [hh]; have C3 := Lib.hid c3; clear c3)
    go_ret
    exact ⟨rfl, N2.out.drew.trans C3.out⟩
theorem do_some (h : BusM n m w q F S) {N : Nat} (ok : S.Ok n m N) (kd co li wo va : Int) {K : FuncId} (hl : lookA kd kindL = some (kfn K)) (hcall : ∀ (args : Array Value) (W : World), (callFunc K args).run Try.prog W = .ok (.enter K args) W) (hh : hasB S ⟨kd, co, li, wo, va⟩ = true) (o : Option Bs)
    (hf : ∀ w1, BusM n m w1 q F S → Calls Try.prog K #[.pointer (some ⟨q, 0, none⟩), .agg (evc ⟨kd, co, li, wo, va⟩)] w1 fun r w' => r = .returned (.bool o.isSome) ∧ BusTo n m w1 q F (o.getD S) w') (hlast : namesC kd = true → ∃ i : Nat, co = (i : Int) ∧ i < m) :
    Calls Try.prog 35 #[.pointer (some ⟨q, 0, none⟩), .agg (evc ⟨kd, co, li, wo, va⟩)] w fun r w' => r = .returned (.bool o.isSome) ∧ BusTo n m w q F ((o.map fun T => lastB T ⟨kd, co, li, wo, va⟩).getD S) w' := by
  obtain ⟨n1, n2⟩ := one_new w (.cells (evc ⟨kd, co, li, wo, va⟩) 41)
  have hM := h.keep n2 (by simp)
  have hpF : w.heap.size ∉ F := fun hz => by have := h.old _ hz; omega
  have N2 := Lib.hid n2
  clear n2 h
  go_enter Try.func35, Try.ntmps35
  go_upto_region 1 with fail
  generalize w.alloc (.cells (evc ⟨kd, co, li, wo, va⟩) 41) = w1 at *
  generalize w.heap.size = p at *
  have HM := Lib.hid hM
  obtain ⟨bl, cl, kb, bp, bc, bm, xs, G, P⟩ := hM
  have hq := P.hq
  unfold busc at hq
  obtain ⟨om, hom, hmm⟩ := P.hm
  have hlk := look_kind hmm bm kd
  rw [hl] at hlk
  simp only [Option.getD_some, Option.isSome_some, kfn] at hlk
  have HPF := Lib.hid hpF
  clear P hmm hpF
  go_upto_region 3 with fail
  go_region
  have D3 := Lib.hid ((Chg.refl [] w1).drew)
  have n3 : w1.drew.heap[p]? = some (.cells (evc ⟨kd, co, li, wo, va⟩) 41 (0, 0)) := n1
  have HM3 := Lib.hid (HM.out.keep D3.out (by simp))
  clear n1 hq hom hlk HM
  generalize w1.drew = w3 at *
  cases o with
  | none =>
    go_wp2_with (first | (go_at_call 57; refine (has_ev HM3.out ok _ _ _ _ _).mono ?_; rintro e w4 ⟨rfl, c4⟩; rw [hh]; have n4 := c4.keep n3 (by simp); have HM4 := Lib.hid (HM3.out.keep c4 (by simp)); have C4 := Lib.hid c4; clear c4) | (refine (hf _ HM4.out).mono ?_; rintro e w5 ⟨rfl, h5⟩; have H5 := Lib.hid h5; clear h5))
    go_ret
    exact ⟨rfl, ((H5.out.of C4.out).of D3.out).of N2.out⟩
  | some T =>
    have hf' : ∀ w1, BusM n m w1 q F S → Calls Try.prog K #[.pointer (some ⟨q, 0, none⟩), .agg (evc ⟨kd, co, li, wo, va⟩)] w1 fun r w' => r = .returned (.bool true) ∧ BusTo n m w1 q F T w' := hf
    clear hf
    cases hn : namesC kd
    · go_wp2_with (first | (go_at_call 57; refine (has_ev HM3.out ok _ _ _ _ _).mono ?_; rintro e w4 ⟨rfl, c4⟩; rw [hh]; have n4 := c4.keep n3 (by simp); have HM4 := Lib.hid (HM3.out.keep c4 (by simp)); have C4 := Lib.hid c4; clear c4) | (go_at_call 58; refine (namesc_any _ _).mono ?_; rintro e w6 ⟨rfl, rfl⟩; rw [hn]) | (refine (hf' _ HM4.out).mono ?_; rintro e w5 ⟨rfl, h5⟩; have n5 : w5.heap[p]? = some (.cells (evc ⟨kd, co, li, wo, va⟩) 41 (0, 0)) := by { obtain ⟨_, _, c5, _⟩ := h5; exact c5.keep n4 HPF.out }; have H5 := Lib.hid h5; clear h5))
      go_ret
      refine ⟨rfl, ?_⟩
      rw [show ((some T).map fun T => lastB T ⟨kd, co, li, wo, va⟩).getD S = T by simp [lastB, hn]]
      exact ((H5.out.of C4.out).of D3.out).of N2.out
    · obtain ⟨i, rfl, hi⟩ := hlast hn
      go_upto_region 7 with (first | (go_at_call 57; refine (has_ev HM3.out ok _ _ _ _ _).mono ?_; rintro e w4 ⟨rfl, c4⟩; rw [hh]; have n4 := c4.keep n3 (by simp); have HM4 := Lib.hid (HM3.out.keep c4 (by simp)); have C4 := Lib.hid c4; clear c4) | (go_at_call 58; refine (namesc_any _ _).mono ?_; rintro e w6 ⟨rfl, rfl⟩; rw [hn]) | (refine (hf' _ HM4.out).mono ?_; rintro e w5 ⟨rfl, h5⟩; have n5 : w5.heap[p]? = some (.cells (evc ⟨kd, i, li, wo, va⟩) 41 (0, 0)) := by { obtain ⟨_, _, c5, _⟩ := h5; exact c5.keep n4 HPF.out }; have H5 := Lib.hid h5; clear h5))
      obtain ⟨F5, ⟨bl5, cl5, kb5, bp5, bc5, bm5, xs5, G5, P5⟩, c5, f5⟩ := H5.out
      have hq5 := P5.hq
      unfold busc at hq5
      have hb5 := P5.hc
      have hx5 : i < xs5.length := by rw [P5.lx]; exact hi
      have hev := cx_hasEv hx5 111
      have i0 : (0 : Int) ≤ (i : Int) := by omega
      have i1 : (i : Int) < (m : Int) := by omega
      have HP5 := Lib.hid P5
      have C5 := Lib.hid c5
      have F5' := Lib.hid f5
      clear P5 c5 f5 H5 n4 n3 hx5
      go_region
      go_wp2_with fail
      go_ret
      refine ⟨rfl, ?_⟩
      have e0 : ((some T).map fun T => lastB T ⟨kd, i, li, wo, va⟩).getD S = T.setC i { T.core i with la := ⟨kd, i, li, wo, va⟩ } := by
        simp [lastB, hn, Bs.last]
      rw [e0]
      have := last_bus (HP5.out.keep ((Chg.refl [] w5).drew) (by simp)) hi ⟨kd, i, li, wo, va⟩ rfl
      exact ((((this.of ((Chg.refl [] w5).drew)).on C5.out F5'.out).of C4.out).of D3.out).of N2.out
end
end Go.Proofs.Ytnocekhgabgffaa
end
section
namespace Go.Proofs.Ytnocekhgabgffaa
open Go.RowKit
set_option linter.unusedVariables false
set_option maxHeartbeats 1000000

set_option maxRecDepth 100000
attribute [local go_sem ↓] append_appS copy_copS clear_clrS make_mkS slice_slS lookup_lookS mput_mputS del_mdelS cell_row frozen_row heap_drew heap_drewN heap_alloc heap_past heap_setCell heap_putRow heap_setB loadEv storeEv loadBe storeBe loadSp storeSp loadNw storeNw loadLine storeLine evc_kd evc_co evc_li evc_wo evc_va bec_fl bec_li bec_wo bec_va nwC_0 nwC_1 spC_0 spC_1
attribute [local go_sem] rowCell_some rowFrozen_some rowHas_some rowIn_some rowPart_full rowPart_lit rowPut_full rowPut_lit rowSet_some size_putRow size_setB run_loadS run_storeS run_appS run_copS run_clrS run_mkS run_slS run_lookS run_mputS run_mdelS loadW_at storeW_at fit_all fit_le one_int one_bool one_pointer one_slice allOne_list putRow_new ne_size1 ne_size2 ne_size3 ne_size4 wideEv wideBe wideSp wideNw wideLine evc_size evc_one evc_ne evc_lit evc_z fold_evc bec_size bec_one bec_lit bec_ne bec_at bec_in spC_size spC_one nwC_size nwC_one nwC_ne nwC_set0 nwC_set1 nwC_lit bec_set0 bec_set1 bec_set2 bec_set3 spC_set0 spC_set1 spC_lit fold_spC spC_ne fold_nwC fold_bec fold_at vs_size vs_one ic_size ic_get
attribute [local simp ↓] heap_drew heap_drewN heap_alloc heap_past heap_setCell heap_putRow heap_setB
attribute [local simp] rowCell_some rowFrozen_some rowHas_some rowIn_some rowPart_full rowPart_lit rowPut_full rowPut_lit rowSet_some size_putRow size_setB fit_all putRow_new ne_size1 ne_size2 ne_size3 ne_size4 evc_size bec_size spC_size nwC_size vs_size fit_le
attribute [local go_sem ↓] loadIt storeIt loadSn storeSn loadPl storePl
attribute [local go_sem] wideIt wideSn widePl
section
variable {z : Cf} {w w' : World} {q bl kb bp bc ck : Nat} {I : List Nat} {xs : List Ci} {R : Rb} {N : Nat}
/-- A core of it has changed. -/
theorem DbP.setC {i : Nat} {x' : Ci} {c' : Rc} {I' l : List Nat} (P : DbP z w q bl kb bp bc ck I xs R) (hi : i < z.m) (hc : Chg l w w') (hl : ∀ y ∈ l, y = bc ∨ w.heap.size ≤ y) (hb : w'.heap[bc]? = some (.cells (sq Ci.enc (xs.set i x') []) 82 (0, 0))) (hd : DcM w' x' I' c') (hI : ∀ y ∈ I, y ∈ I') (hN : ∀ y ∈ I', y ∈ I ∨ w.heap.size ≤ y) (hO : ∀ y ∈ I', y < w'.heap.size) : DbP z w' q bl kb bp bc ck I' (xs.set i x') (R.setC i c') := by
  obtain ⟨r, hr⟩ := P.hk
  have nd := P.nd
  have hold := P.old
  simp only [List.nodup_cons, List.mem_cons, List.not_mem_nil, or_false, not_or, List.nodup_nil, not_false_eq_true, and_true] at nd
  obtain ⟨⟨a1, a2, a3, a4⟩, ⟨b2, b3, b4⟩, ⟨c3, c4⟩, d4⟩ := nd
  have nl : ∀ y, y < w.heap.size → y ≠ bc → y ∉ l := fun y h1 h2 h3 => by rcases hl y h3 with h | h <;> omega
  have l1 := P.lx; have l2 := P.lc
  have hbc := hold bc (by simp)
  refine ⟨hc.keep P.hq (nl _ (hold q (by simp)) a4), hc.keep P.hl (nl _ (hold bl (by simp)) b4), ⟨r, hc.keep hr (nl _ (hold kb (by simp)) c4)⟩, hc.keep P.hp (nl _ (hold bp (by simp)) d4), hb, by simp [P.lx], by simp [Rb.setC, P.lc], fun j x c h1 h2 => ?_, P.nd, fun y hy => ?_, hO⟩
  · by_cases hj : j = i
    · subst hj
      simp only [Rb.setC] at h2
      rw [List.getElem?_set_self (by omega)] at h1 h2
      cases h1; cases h2
      exact hd
    · simp only [Rb.setC] at h2
      rw [List.getElem?_set_ne (Ne.symm hj)] at h1 h2
      exact ((P.co j x c h1 h2).keep hc (fun y hy => nl y (P.iO y hy) (fun e => P.iF y hy (by simp [e])))).more hI
  · rcases hN y hy with h | h
    · exact P.iF y h
    · have o1 := hold q (by simp)
      have o2 := hold bl (by simp)
      have o3 := hold kb (by simp)
      have o4 := hold bp (by simp)
      simp only [List.mem_cons, List.not_mem_nil, or_false, not_or]
      omega
theorem ci_lk {i : Nat} {x : Ci} (h : xs[i]? = some x) (b : Bool) : (sq Ci.enc xs []).setIfInBounds (i * 6 + 3) (.bool b) = sq Ci.enc (xs.set i { x with lk := b }) [] := sq_set9 (o := 3) Ci.len h (by omega) rfl
theorem ci_st {i : Nat} {x : Ci} (h : xs[i]? = some x) (b : Bool) : (sq Ci.enc xs []).setIfInBounds (i * 6 + 2) (.bool b) = sq Ci.enc (xs.set i { x with st := b }) [] := sq_set9 (o := 2) Ci.len h (by omega) rfl
theorem ci_A {i : Nat} {x : Ci} (h : xs[i]? = some x) (A : Option Addr) (n cap : Nat) : (sq Ci.enc xs []).setIfInBounds (i * 6) (.slice A n cap) = sq Ci.enc (xs.set i { x with A := A, n := n, cap := cap }) [] := sq_set9 (o := 0) Ci.len h (by omega) rfl
theorem ci_B {i : Nat} {x : Ci} (h : xs[i]? = some x) (A : Option Addr) (n cap : Nat) : (sq Ci.enc xs []).setIfInBounds (i * 6 + 1) (.slice A n cap) = sq Ci.enc (xs.set i { x with B := A, k := n, kap := cap }) [] := sq_set9 (o := 1) Ci.len h (by omega) rfl
theorem ci_pl {i : Nat} {x : Ci} (h : xs[i]? = some x) (a b : Int) (t : TypeId) (f : Nat × Nat) : rowPut (some (.cells (sq Ci.enc xs []) t f)) (i * 6 + 4) (spC a b) = some (.cells (sq Ci.enc (xs.set i { x with pl := (a, b) }) []) t f) := by
  obtain ⟨hn, rfl⟩ := List.getElem?_eq_some_iff.1 h
  have e1 : xs = xs.take i ++ xs[i] :: xs.drop (i + 1) := by rw [← List.drop_eq_getElem_cons hn, List.take_append_drop]
  have e2 : xs.set i { xs[i] with pl := (a, b) } = xs.take i ++ { xs[i] with pl := (a, b) } :: xs.drop (i + 1) := List.set_eq_take_append_cons_drop.trans (if_pos hn)
  have e3 : (cat Ci.enc (xs.take i)).length = i * 6 := by rw [cat_length Ci.len, List.length_take, Nat.min_eq_left (by omega)]
  have e4 : splice (Ci.enc xs[i]) 4 [.int .i64 a, .int .i64 b] = Ci.enc { xs[i] with pl := (a, b) } := rfl
  rw [rowPut_some, sq_toList, show (spC a b).toList = [.int .i64 a, .int .i64 b] by simp [spC]]
  congr 2
  unfold sq
  rw [List.append_nil, List.append_nil, e2]
  congr 1
  conv => lhs; rw [e1]
  rw [cat_append, cat_append, cat_cons, cat_cons, ← e3, splice_left14, splice_append _ _ _ _ (by rw [Ci.len]; exact Nat.le_refl _), e4]
theorem ci_has {i : Nat} (hn : i < xs.length) (t : TypeId) : rowHas (some (.cells (sq Ci.enc xs []) t (0, 0))) (i * 6 + 4) 2 = true := by
  have hm := mul_lt_of (k := 6) hn
  rw [rowHas_some, sq_size Ci.len]
  exact decide_eq_true (show _ ≤ _ by simp; omega)
theorem DbP.lock {i : Nat} {xA : Ci} (P : DbP z w q bl kb bp bc ck I xs R) (hi : i < z.m) (hx : xs[i]? = some xA) (e : Ev) {b : Bool} {pl : Int × Int} (hbb : b = decide (e.kd = 4)) (hpl : pl = if e.kd = 4 then (e.li, e.wo) else (0, 0)) (hc : Chg [bc] w w') (hb : w'.heap[bc]? = some (.cells (sq Ci.enc (xs.set i { xA with lk := b, pl := pl }) []) 82 (0, 0))) :
    DbP z w' q bl kb bp bc ck I (xs.set i { xA with lk := b, pl := pl }) (R.setC i (lockC (R.core i) e)) := by
  obtain ⟨x, h1, h2, hd⟩ := P.core hi
  rw [hx] at h1
  cases h1
  have hd' := hd.keep hc (fun y hy h => P.iF y hy (by simp only [List.mem_singleton] at h; simp [h]))
  refine P.setC hi hc (by simp) hb ⟨hd'.n, hd'.k, hd'.hA, hd'.hB, hd'.iA, hd'.iB, hd'.st, hbb, hpl, hd'.cA, hd'.cB⟩ (fun y hy => hy) (fun y hy => .inl hy) (fun y hy => Nat.lt_of_lt_of_le (P.iO y hy) hc.size)
theorem lock_eq {i : Nat} (hi : i < R.cs.length) (c : Rc) (e : Ev) : (R.setC i c).setC i (lockC ((R.setC i c).core i) e) = R.setC i (lockC c e) := by
  rw [rcore_setC hi, if_pos rfl]
  unfold Rb.setC
  rw [List.set_set]
/-- What an event leaves of the bus in memory. -/
def DoneTo (z : Cf) (w : World) (q bl kb bp bc ck : Nat) (I : List Nat) (R' : Rb) (v : Ending) (w' : World) : Prop := v = .returned (.tuple #[]) ∧ ∃ I' xs', DbP z w' q bl kb bp bc ck I' xs' R' ∧ Chg [bl, bc] w w' ∧ ∀ y ∈ I', y ∈ I ∨ w.heap.size ≤ y
theorem done_rest_false (P : DbP z w q bl kb bp bc ck I xs R) (ok : R.Ok z N) (hN : N ≤ 1000) {i : Nat} (hi : i < z.m) (kd co li wo va : Int) (t12 : (kd == 12) = false) (t14 : (kd == 14) = false) (t3 : (kd == 3) = false) (t13 : (kd == 13) = false) (t6 : (kd == 6) = false) (t9 : (kd == 9) = false) (t10 : (kd == 10) = false) (t4 : (kd == 4) = false) :
    Calls Try.prog 30 #[.pointer (some ⟨q, 0, none⟩), .pointer (some ⟨bc, i * 6, none⟩), .agg (evc ⟨kd, co, li, wo, va⟩)] w (DoneTo z w q bl kb bp bc ck I (R.setC i (lockC (R.core i) ⟨kd, co, li, wo, va⟩))) := by
  obtain ⟨x, hx, hcr, hd⟩ := P.core hi
  obtain ⟨n1, n2⟩ := one_new w (.cells (evc ⟨kd, co, li, wo, va⟩) 41)
  have P1 := P.keep n2 (by simp)
  have hpn : w.heap.size ≠ bc := by have := P.old bc (by simp); omega
  have hpb : w.heap.size ≠ bl := by have := P.old bl (by simp); omega
  have HPN := Lib.hid hpn
  have HPB := Lib.hid hpb
  have N2 := Lib.hid n2
  have HX := Lib.hid hx
  clear n2 hd P hcr hpn hpb
  go_enter Try.func30, Try.ntmps30
  try dsimp only [List.append]
  go_upto_region 1 with fail
  generalize w.alloc (.cells (evc ⟨kd, co, li, wo, va⟩) 41) = w1 at *
  generalize w.heap.size = p at *
  have hb1 := P1.hc
  have PA := Lib.hid P1
  have CA := Lib.hid (N2.out.mono (l' := [bl, bc]) (by simp))
  clear P1
  obtain ⟨_, _, _, k0, _, _⟩ := ci_cells HX.out
  go_upto_region 20 with fail
  have f1 : (w1.setCell ⟨bc, i * 6 + 3, none⟩ (.bool false)).heap[bc]? = some (.cells (sq Ci.enc (xs.set i { x with lk := false }) []) 82 (0, 0)) := by rw [heap_setCell, if_pos rfl, hb1, rowSet_some, ci_lk HX.out]
  have g1 : Chg [bc] w1 (w1.setCell ⟨bc, i * 6 + 3, none⟩ (.bool false)) := (Chg.refl [bc] w1).setCell _ _ _ (.inl (by simp))
  have m1 := g1.keep n1 (by simpa using HPN.out)
  generalize w1.setCell ⟨bc, i * 6 + 3, none⟩ (.bool false) = wB at *
  have hil : i < xs.length := (List.getElem?_eq_some_iff.1 HX.out).1
  have x1 : (xs.set i { x with lk := false })[i]? = some { x with lk := false } := List.getElem?_set_self hil
  have h2 := ci_has (xs := xs.set i { x with lk := false }) (i := i) (by simpa using hil) 82
  have f2 : (putRow wB bc (i * 6 + 4) (spC 0 0)).heap[bc]? = some (.cells (sq Ci.enc (xs.set i { x with lk := false, pl := (0, 0) }) []) 82 (0, 0)) := by rw [heap_putRow _ _ _ _ _ (by rw [spC_size, f1]; exact h2), if_pos rfl, f1, ci_pl x1, List.set_set]
  have g2 : Chg [bc] w1 (putRow wB bc (i * 6 + 4) (spC 0 0)) := g1.trans ((Chg.refl [bc] wB).putRow _ _ _ (.inl (by simp)))
  have m2 := ((Chg.refl [bc] wB).putRow bc (i * 6 + 4) (spC 0 0) (.inl (by simp))).keep m1 (by simpa using HPN.out)
  go_upto_region 21 with fail
  clear f1 m1 g1 h2 x1
  generalize putRow wB bc (i * 6 + 4) (spC 0 0) = wC at *
  have x2 : (xs.set i { x with lk := false, pl := (0, 0) })[i]? = some { x with lk := false, pl := (0, 0) } := List.getElem?_set_self hil
  obtain ⟨_, _, _, k3, _, _⟩ := ci_cells x2
  dsimp only at k3
  clear k0
  have h4 : ¬ kd = 4 := by simpa using t4
  have DN := Lib.hid (PA.out.lock hi HX.out ⟨kd, co, li, wo, va⟩ (b := false) (pl := (0, 0)) (by simp [h4]) (by simp [h4]) g2 f2)
  have CN := Lib.hid (CA.out.trans (g2.mono (by simp)))
  clear g2 x2 h4
  go_wp2_with fail
  go_end0
  exact ⟨rfl, _, _, DN.out, CN.out, (fun y h => Or.inl h)⟩
theorem done_rest_true (P : DbP z w q bl kb bp bc ck I xs R) (ok : R.Ok z N) (hN : N ≤ 1000) {i : Nat} (hi : i < z.m) (kd co li wo va : Int) (t12 : (kd == 12) = false) (t14 : (kd == 14) = false) (t3 : (kd == 3) = false) (t13 : (kd == 13) = false) (t6 : (kd == 6) = false) (t9 : (kd == 9) = false) (t10 : (kd == 10) = false) (t4 : (kd == 4) = true) :
    Calls Try.prog 30 #[.pointer (some ⟨q, 0, none⟩), .pointer (some ⟨bc, i * 6, none⟩), .agg (evc ⟨kd, co, li, wo, va⟩)] w (DoneTo z w q bl kb bp bc ck I (R.setC i (lockC (R.core i) ⟨kd, co, li, wo, va⟩))) := by
  obtain ⟨x, hx, hcr, hd⟩ := P.core hi
  obtain ⟨n1, n2⟩ := one_new w (.cells (evc ⟨kd, co, li, wo, va⟩) 41)
  have P1 := P.keep n2 (by simp)
  have hpn : w.heap.size ≠ bc := by have := P.old bc (by simp); omega
  have hpb : w.heap.size ≠ bl := by have := P.old bl (by simp); omega
  have HPN := Lib.hid hpn
  have HPB := Lib.hid hpb
  have N2 := Lib.hid n2
  have HX := Lib.hid hx
  clear n2 hd P hcr hpn hpb
  go_enter Try.func30, Try.ntmps30
  try dsimp only [List.append]
  go_upto_region 1 with fail
  generalize w.alloc (.cells (evc ⟨kd, co, li, wo, va⟩) 41) = w1 at *
  generalize w.heap.size = p at *
  have hb1 := P1.hc
  have PA := Lib.hid P1
  have CA := Lib.hid (N2.out.mono (l' := [bl, bc]) (by simp))
  clear P1
  obtain ⟨_, _, _, k0, _, _⟩ := ci_cells HX.out
  go_upto_region 20 with fail
  have f1 : (w1.setCell ⟨bc, i * 6 + 3, none⟩ (.bool true)).heap[bc]? = some (.cells (sq Ci.enc (xs.set i { x with lk := true }) []) 82 (0, 0)) := by rw [heap_setCell, if_pos rfl, hb1, rowSet_some, ci_lk HX.out]
  have g1 : Chg [bc] w1 (w1.setCell ⟨bc, i * 6 + 3, none⟩ (.bool true)) := (Chg.refl [bc] w1).setCell _ _ _ (.inl (by simp))
  have m1 := g1.keep n1 (by simpa using HPN.out)
  generalize w1.setCell ⟨bc, i * 6 + 3, none⟩ (.bool true) = wB at *
  have hil : i < xs.length := (List.getElem?_eq_some_iff.1 HX.out).1
  have x1 : (xs.set i { x with lk := true })[i]? = some { x with lk := true } := List.getElem?_set_self hil
  have h2 := ci_has (xs := xs.set i { x with lk := true }) (i := i) (by simpa using hil) 82
  have f2 : (putRow wB bc (i * 6 + 4) (spC 0 0)).heap[bc]? = some (.cells (sq Ci.enc (xs.set i { x with lk := true, pl := (0, 0) }) []) 82 (0, 0)) := by rw [heap_putRow _ _ _ _ _ (by rw [spC_size, f1]; exact h2), if_pos rfl, f1, ci_pl x1, List.set_set]
  have g2 : Chg [bc] w1 (putRow wB bc (i * 6 + 4) (spC 0 0)) := g1.trans ((Chg.refl [bc] wB).putRow _ _ _ (.inl (by simp)))
  have m2 := ((Chg.refl [bc] wB).putRow bc (i * 6 + 4) (spC 0 0) (.inl (by simp))).keep m1 (by simpa using HPN.out)
  go_upto_region 21 with fail
  clear f1 m1 g1 h2 x1
  generalize putRow wB bc (i * 6 + 4) (spC 0 0) = wC at *
  have x2 : (xs.set i { x with lk := true, pl := (0, 0) })[i]? = some { x with lk := true, pl := (0, 0) } := List.getElem?_set_self hil
  obtain ⟨_, _, _, k3, _, _⟩ := ci_cells x2
  dsimp only at k3
  clear k0
  have h3 := ci_has (xs := xs.set i { x with lk := true, pl := (0, 0) }) (i := i) (by simpa using hil) 82
  have f3 : (putRow wC bc (i * 6 + 4) (spC li wo)).heap[bc]? = some (.cells (sq Ci.enc (xs.set i { x with lk := true, pl := (li, wo) }) []) 82 (0, 0)) := by rw [heap_putRow _ _ _ _ _ (by rw [spC_size, f2]; exact h3), if_pos rfl, f2, ci_pl x2, List.set_set]
  have g3 : Chg [bc] w1 (putRow wC bc (i * 6 + 4) (spC li wo)) := g2.trans ((Chg.refl [bc] wC).putRow _ _ _ (.inl (by simp)))
  have h4 : kd = 4 := by simpa using t4
  have DN := Lib.hid (PA.out.lock hi HX.out ⟨kd, co, li, wo, va⟩ (b := true) (pl := (li, wo)) (by simp [h4]) (by simp [h4]) g3 f3)
  have CN := Lib.hid (CA.out.trans (g3.mono (by simp)))
  clear f3 g2 g3 h4
  go_wp2_with fail
  go_end0
  exact ⟨rfl, _, _, DN.out, CN.out, (fun y h => Or.inl h)⟩
end
end Go.Proofs.Ytnocekhgabgffaa
end
section
namespace Go.Proofs.Ytnocekhgabgffaa
open Go.RowKit
set_option linter.unusedVariables false
set_option maxHeartbeats 1000000

set_option maxRecDepth 100000
attribute [local go_sem ↓] append_appS copy_copS clear_clrS make_mkS slice_slS lookup_lookS mput_mputS del_mdelS cell_row frozen_row heap_drew heap_drewN heap_alloc heap_past heap_setCell heap_putRow heap_setB loadEv storeEv loadBe storeBe loadSp storeSp loadNw storeNw loadLine storeLine evc_kd evc_co evc_li evc_wo evc_va bec_fl bec_li bec_wo bec_va nwC_0 nwC_1 spC_0 spC_1
attribute [local go_sem] rowCell_some rowFrozen_some rowHas_some rowIn_some rowPart_full rowPart_lit rowPut_full rowPut_lit rowSet_some size_putRow size_setB run_loadS run_storeS run_appS run_copS run_clrS run_mkS run_slS run_lookS run_mputS run_mdelS loadW_at storeW_at fit_all fit_le one_int one_bool one_pointer one_slice allOne_list putRow_new ne_size1 ne_size2 ne_size3 ne_size4 wideEv wideBe wideSp wideNw wideLine evc_size evc_one evc_ne evc_lit evc_z fold_evc bec_size bec_one bec_lit bec_ne bec_at bec_in spC_size spC_one nwC_size nwC_one nwC_ne nwC_set0 nwC_set1 nwC_lit bec_set0 bec_set1 bec_set2 bec_set3 spC_set0 spC_set1 spC_lit fold_spC spC_ne fold_nwC fold_bec fold_at vs_size vs_one ic_size ic_get
attribute [local simp ↓] heap_drew heap_drewN heap_alloc heap_past heap_setCell heap_putRow heap_setB
attribute [local simp] rowCell_some rowFrozen_some rowHas_some rowIn_some rowPart_full rowPart_lit rowPut_full rowPut_lit rowSet_some size_putRow size_setB fit_all putRow_new ne_size1 ne_size2 ne_size3 ne_size4 evc_size bec_size spC_size nwC_size vs_size fit_le
attribute [local go_sem ↓] loadIt storeIt loadSn storeSn loadPl storePl
attribute [local go_sem] wideIt wideSn widePl
section
variable {z : Cf} {w w' : World} {q bl kb bp bc ck : Nat} {I : List Nat} {xs : List Ci} {R : Rb} {N : Nat}
theorem done_9 (P : DbP z w q bl kb bp bc ck I xs R) (ok : R.Ok z N) (hN : N ≤ 1000) {i : Nat} (hi : i < z.m) (kd co li wo va : Int) (t12 : (kd == 12) = false) (t14 : (kd == 14) = false) (t3 : (kd == 3) = false) (t13 : (kd == 13) = false) (t6 : (kd == 6) = false) (t9 : (kd == 9) = true) (t4 : (kd == 4) = false) :
    Calls Try.prog 30 #[.pointer (some ⟨q, 0, none⟩), .pointer (some ⟨bc, i * 6, none⟩), .agg (evc ⟨kd, co, li, wo, va⟩)] w (DoneTo z w q bl kb bp bc ck I (R.setC i (lockC { R.core i with st := true } ⟨kd, co, li, wo, va⟩))) := by
  obtain ⟨x, hx, hcr, hd⟩ := P.core hi
  obtain ⟨n1, n2⟩ := one_new w (.cells (evc ⟨kd, co, li, wo, va⟩) 41)
  have P1 := P.keep n2 (by simp)
  have hpn : w.heap.size ≠ bc := by have := P.old bc (by simp); omega
  have hpb : w.heap.size ≠ bl := by have := P.old bl (by simp); omega
  have HPN := Lib.hid hpn
  have HPB := Lib.hid hpb
  have N2 := Lib.hid n2
  have HX := Lib.hid hx
  clear n2 hd P hcr hpn hpb
  go_enter Try.func30, Try.ntmps30
  try dsimp only [List.append]
  go_upto_region 1 with fail
  generalize w.alloc (.cells (evc ⟨kd, co, li, wo, va⟩) 41) = w1 at *
  generalize w.heap.size = p at *
  obtain ⟨_, _, k2, _, _, _⟩ := ci_cells HX.out
  have hb1 := P1.hc
  have LEN := Lib.hid (show i < R.cs.length by rw [ok.cs]; exact hi)
  go_upto_region 19 with fail
  have f0 : (w1.setCell ⟨bc, i * 6 + 2, none⟩ (.bool true)).heap[bc]? = some (.cells (sq Ci.enc (xs.set i { x with st := true }) []) 82 (0, 0)) := by rw [heap_setCell, if_pos rfl, hb1, rowSet_some, ci_st HX.out]
  have g0 : Chg [bc] w1 (w1.setCell ⟨bc, i * 6 + 2, none⟩ (.bool true)) := (Chg.refl [bc] w1).setCell _ _ _ (.inl (by simp))
  have m0 := g0.keep n1 (by simpa using HPN.out)
  have hil0 : i < xs.length := (List.getElem?_eq_some_iff.1 HX.out).1
  have hxa : (xs.set i { x with st := true })[i]? = some { x with st := true } := List.getElem?_set_self hil0
  obtain ⟨x', e1, e2, hd0⟩ := P1.core hi
  rw [HX.out] at e1
  cases e1
  have hd1 := hd0.keep g0 (fun y hy h => P1.iF y hy (by simp only [List.mem_singleton] at h; simp [h]))
  have PA := Lib.hid (P1.setC hi g0 (by simp) f0 (c' := { R.core i with st := true }) (I' := I) ⟨hd1.n, hd1.k, hd1.hA, hd1.hB, hd1.iA, hd1.iB, rfl, hd1.lk, hd1.pl, hd1.cA, hd1.cB⟩ (fun y hy => hy) (fun y hy => .inl hy) (fun y hy => Nat.lt_of_lt_of_le (P1.iO y hy) g0.size))
  have CA := Lib.hid ((N2.out.mono (l' := [bl, bc]) (by simp)).trans (g0.mono (by simp)))
  clear k2 hb1 g0 n1 hil0 e2 hd0 hd1 P1 HX
  generalize w1.setCell ⟨bc, i * 6 + 2, none⟩ (.bool true) = wA at *
  generalize ({ x with st := true } : Ci) = xA at *
  generalize xs.set i xA = xsA at *
  have HXA := Lib.hid hxa
  clear hxa
  obtain ⟨_, _, _, k0, _, _⟩ := ci_cells HXA.out
  go_upto_region 20 with fail
  have f1 : (wA.setCell ⟨bc, i * 6 + 3, none⟩ (.bool false)).heap[bc]? = some (.cells (sq Ci.enc (xsA.set i { xA with lk := false }) []) 82 (0, 0)) := by rw [heap_setCell, if_pos rfl, f0, rowSet_some, ci_lk HXA.out]
  have g1 : Chg [bc] wA (wA.setCell ⟨bc, i * 6 + 3, none⟩ (.bool false)) := (Chg.refl [bc] wA).setCell _ _ _ (.inl (by simp))
  have m1 := g1.keep m0 (by simpa using HPN.out)
  generalize wA.setCell ⟨bc, i * 6 + 3, none⟩ (.bool false) = wB at *
  have hil : i < xsA.length := (List.getElem?_eq_some_iff.1 HXA.out).1
  have x1 : (xsA.set i { xA with lk := false })[i]? = some { xA with lk := false } := List.getElem?_set_self hil
  have h2 := ci_has (xs := xsA.set i { xA with lk := false }) (i := i) (by simpa using hil) 82
  have f2 : (putRow wB bc (i * 6 + 4) (spC 0 0)).heap[bc]? = some (.cells (sq Ci.enc (xsA.set i { xA with lk := false, pl := (0, 0) }) []) 82 (0, 0)) := by rw [heap_putRow _ _ _ _ _ (by rw [spC_size, f1]; exact h2), if_pos rfl, f1, ci_pl x1, List.set_set]
  have g2 : Chg [bc] wA (putRow wB bc (i * 6 + 4) (spC 0 0)) := g1.trans ((Chg.refl [bc] wB).putRow _ _ _ (.inl (by simp)))
  have m2 := ((Chg.refl [bc] wB).putRow bc (i * 6 + 4) (spC 0 0) (.inl (by simp))).keep m1 (by simpa using HPN.out)
  go_upto_region 21 with fail
  clear f1 m1 g1 h2 x1
  generalize putRow wB bc (i * 6 + 4) (spC 0 0) = wC at *
  have x2 : (xsA.set i { xA with lk := false, pl := (0, 0) })[i]? = some { xA with lk := false, pl := (0, 0) } := List.getElem?_set_self hil
  obtain ⟨_, _, _, k3, _, _⟩ := ci_cells x2
  dsimp only at k3
  clear k0
  have h4 : ¬ kd = 4 := by simpa using t4
  have DN := Lib.hid (PA.out.lock hi HXA.out ⟨kd, co, li, wo, va⟩ (b := false) (pl := (0, 0)) (by simp [h4]) (by simp [h4]) g2 f2)
  have CN := Lib.hid (CA.out.trans (g2.mono (by simp)))
  clear g2 x2 h4
  go_wp2_with fail
  go_end0
  exact ⟨rfl, _, _, (by have h := DN.out; rwa [lock_eq LEN.out] at h), CN.out, (fun y h => Or.inl h)⟩
theorem done_10 (P : DbP z w q bl kb bp bc ck I xs R) (ok : R.Ok z N) (hN : N ≤ 1000) {i : Nat} (hi : i < z.m) (kd co li wo va : Int) (t12 : (kd == 12) = false) (t14 : (kd == 14) = false) (t3 : (kd == 3) = false) (t13 : (kd == 13) = false) (t6 : (kd == 6) = false) (t9 : (kd == 9) = false) (t10 : (kd == 10) = true) (t4 : (kd == 4) = false) :
    Calls Try.prog 30 #[.pointer (some ⟨q, 0, none⟩), .pointer (some ⟨bc, i * 6, none⟩), .agg (evc ⟨kd, co, li, wo, va⟩)] w (DoneTo z w q bl kb bp bc ck I (R.setC i (lockC { R.core i with st := true } ⟨kd, co, li, wo, va⟩))) := by
  obtain ⟨x, hx, hcr, hd⟩ := P.core hi
  obtain ⟨n1, n2⟩ := one_new w (.cells (evc ⟨kd, co, li, wo, va⟩) 41)
  have P1 := P.keep n2 (by simp)
  have hpn : w.heap.size ≠ bc := by have := P.old bc (by simp); omega
  have hpb : w.heap.size ≠ bl := by have := P.old bl (by simp); omega
  have HPN := Lib.hid hpn
  have HPB := Lib.hid hpb
  have N2 := Lib.hid n2
  have HX := Lib.hid hx
  clear n2 hd P hcr hpn hpb
  go_enter Try.func30, Try.ntmps30
  try dsimp only [List.append]
  go_upto_region 1 with fail
  generalize w.alloc (.cells (evc ⟨kd, co, li, wo, va⟩) 41) = w1 at *
  generalize w.heap.size = p at *
  obtain ⟨_, _, k2, _, _, _⟩ := ci_cells HX.out
  have hb1 := P1.hc
  have LEN := Lib.hid (show i < R.cs.length by rw [ok.cs]; exact hi)
  go_upto_region 19 with fail
  have f0 : (w1.setCell ⟨bc, i * 6 + 2, none⟩ (.bool true)).heap[bc]? = some (.cells (sq Ci.enc (xs.set i { x with st := true }) []) 82 (0, 0)) := by rw [heap_setCell, if_pos rfl, hb1, rowSet_some, ci_st HX.out]
  have g0 : Chg [bc] w1 (w1.setCell ⟨bc, i * 6 + 2, none⟩ (.bool true)) := (Chg.refl [bc] w1).setCell _ _ _ (.inl (by simp))
  have m0 := g0.keep n1 (by simpa using HPN.out)
  have hil0 : i < xs.length := (List.getElem?_eq_some_iff.1 HX.out).1
  have hxa : (xs.set i { x with st := true })[i]? = some { x with st := true } := List.getElem?_set_self hil0
  obtain ⟨x', e1, e2, hd0⟩ := P1.core hi
  rw [HX.out] at e1
  cases e1
  have hd1 := hd0.keep g0 (fun y hy h => P1.iF y hy (by simp only [List.mem_singleton] at h; simp [h]))
  have PA := Lib.hid (P1.setC hi g0 (by simp) f0 (c' := { R.core i with st := true }) (I' := I) ⟨hd1.n, hd1.k, hd1.hA, hd1.hB, hd1.iA, hd1.iB, rfl, hd1.lk, hd1.pl, hd1.cA, hd1.cB⟩ (fun y hy => hy) (fun y hy => .inl hy) (fun y hy => Nat.lt_of_lt_of_le (P1.iO y hy) g0.size))
  have CA := Lib.hid ((N2.out.mono (l' := [bl, bc]) (by simp)).trans (g0.mono (by simp)))
  clear k2 hb1 g0 n1 hil0 e2 hd0 hd1 P1 HX
  generalize w1.setCell ⟨bc, i * 6 + 2, none⟩ (.bool true) = wA at *
  generalize ({ x with st := true } : Ci) = xA at *
  generalize xs.set i xA = xsA at *
  have HXA := Lib.hid hxa
  clear hxa
  obtain ⟨_, _, _, k0, _, _⟩ := ci_cells HXA.out
  go_upto_region 20 with fail
  have f1 : (wA.setCell ⟨bc, i * 6 + 3, none⟩ (.bool false)).heap[bc]? = some (.cells (sq Ci.enc (xsA.set i { xA with lk := false }) []) 82 (0, 0)) := by rw [heap_setCell, if_pos rfl, f0, rowSet_some, ci_lk HXA.out]
  have g1 : Chg [bc] wA (wA.setCell ⟨bc, i * 6 + 3, none⟩ (.bool false)) := (Chg.refl [bc] wA).setCell _ _ _ (.inl (by simp))
  have m1 := g1.keep m0 (by simpa using HPN.out)
  generalize wA.setCell ⟨bc, i * 6 + 3, none⟩ (.bool false) = wB at *
  have hil : i < xsA.length := (List.getElem?_eq_some_iff.1 HXA.out).1
  have x1 : (xsA.set i { xA with lk := false })[i]? = some { xA with lk := false } := List.getElem?_set_self hil
  have h2 := ci_has (xs := xsA.set i { xA with lk := false }) (i := i) (by simpa using hil) 82
  have f2 : (putRow wB bc (i * 6 + 4) (spC 0 0)).heap[bc]? = some (.cells (sq Ci.enc (xsA.set i { xA with lk := false, pl := (0, 0) }) []) 82 (0, 0)) := by rw [heap_putRow _ _ _ _ _ (by rw [spC_size, f1]; exact h2), if_pos rfl, f1, ci_pl x1, List.set_set]
  have g2 : Chg [bc] wA (putRow wB bc (i * 6 + 4) (spC 0 0)) := g1.trans ((Chg.refl [bc] wB).putRow _ _ _ (.inl (by simp)))
  have m2 := ((Chg.refl [bc] wB).putRow bc (i * 6 + 4) (spC 0 0) (.inl (by simp))).keep m1 (by simpa using HPN.out)
  go_upto_region 21 with fail
  clear f1 m1 g1 h2 x1
  generalize putRow wB bc (i * 6 + 4) (spC 0 0) = wC at *
  have x2 : (xsA.set i { xA with lk := false, pl := (0, 0) })[i]? = some { xA with lk := false, pl := (0, 0) } := List.getElem?_set_self hil
  obtain ⟨_, _, _, k3, _, _⟩ := ci_cells x2
  dsimp only at k3
  clear k0
  have h4 : ¬ kd = 4 := by simpa using t4
  have DN := Lib.hid (PA.out.lock hi HXA.out ⟨kd, co, li, wo, va⟩ (b := false) (pl := (0, 0)) (by simp [h4]) (by simp [h4]) g2 f2)
  have CN := Lib.hid (CA.out.trans (g2.mono (by simp)))
  clear g2 x2 h4
  go_wp2_with fail
  go_end0
  exact ⟨rfl, _, _, (by have h := DN.out; rwa [lock_eq LEN.out] at h), CN.out, (fun y h => Or.inl h)⟩
theorem done_3no (P : DbP z w q bl kb bp bc ck I xs R) (ok : R.Ok z N) (hN : N ≤ 1000) {i : Nat} (hi : i < z.m) (kd co li wo va : Int) (t12 : (kd == 12) = false) (t14 : (kd == 14) = false) (t3 : (kd == 3) = true) (t4 : (kd == 4) = false) (l o : Nat) (hl : l < z.n) (ho : o < 8) (hli : li = l) (hwo : wo = o) (hf : firstR (R.core i) ⟨false, li, wo, va⟩ = false) :
    Calls Try.prog 30 #[.pointer (some ⟨q, 0, none⟩), .pointer (some ⟨bc, i * 6, none⟩), .agg (evc ⟨kd, co, li, wo, va⟩)] w (DoneTo z w q bl kb bp bc ck I ((R.setW l o va).setC i (lockC ((R.setW l o va).core i) ⟨kd, co, li, wo, va⟩))) := by
  subst hli hwo
  obtain ⟨x, hx, hcr, hd⟩ := P.core hi
  obtain ⟨n1, n2⟩ := one_new w (.cells (evc ⟨kd, co, (l : Int), (o : Int), va⟩) 41)
  have P1 := P.keep n2 (by simp)
  have hpn : w.heap.size ≠ bc := by have := P.old bc (by simp); omega
  have hpb : w.heap.size ≠ bl := by have := P.old bl (by simp); omega
  have HPN := Lib.hid hpn
  have HPB := Lib.hid hpb
  have N2 := Lib.hid n2
  have HX := Lib.hid hx
  clear n2 hd P hcr hpn hpb
  go_enter Try.func30, Try.ntmps30
  try dsimp only [List.append]
  go_upto_region 1 with fail
  generalize w.alloc (.cells (evc ⟨kd, co, (l : Int), (o : Int), va⟩) 41) = w1 at *
  generalize w.heap.size = p at *
  have hb1 := P1.hc
  have hls := ok.ls
  obtain ⟨x', e1, e2, hd0⟩ := P1.core hi
  rw [HX.out] at e1
  cases e1
  have D1 := Lib.hid hd0
  have hcs := (ok.core i).1
  have hlt : l * 8 + o < R.ls.length := by rw [hls]; omega
  obtain ⟨yo, hyo⟩ : ∃ yo, R.ls[l * 8 + o]? = some yo := ⟨_, List.getElem?_eq_getElem hlt⟩
  have hcl : (bk R.ls [])[l * 8 + o]? = some (.int .u64 yo) := by unfold bk; rw [List.append_nil, List.getElem?_toArray, List.getElem?_map, hyo]; rfl
  have HLT := Lib.hid hlt
  have HF := Lib.hid hf
  have u0 : (0 : Int) ≤ (l : Int) := by omega
  have u1 : (l : Int) < (z.n : Int) := by omega
  have u2 : (0 : Int) ≤ (o : Int) := by omega
  have u3 : (o : Int) < 8 := by omega
  clear hyo hd0 e2 hf
  go_upto_region 9 with (go_at_call 40; refine (rfirst_any hb1 HX.out D1.out (by omega) ⟨false, l, o, va⟩).mono ?_; rintro e w3 ⟨rfl, c9⟩; rw [HF.out]; have n3 := c9.keep n1 List.not_mem_nil; have P3 := Lib.hid (P1.keep c9 (fun _ _ => List.not_mem_nil)); have C3 := Lib.hid ((N2.out.trans c9).mono (l' := [bl, bc]) (by simp)); clear c9)
  have hq3 := P3.out.hq
  have hl3 := P3.out.hl
  unfold dbc at hq3
  clear hb1 n1 P1 D1
  go_region
  have f0 : (w3.setCell ⟨bl, l * 8 + o, none⟩ (.int .u64 va)).drew.heap[bl]? = some (.cells (bk (R.ls.set (l * 8 + o) va) []) 44 (0, 0)) := by rw [heap_drew, heap_setCell, if_pos rfl, hl3, rowSet_some, bk_set _ _ _ _ HLT.out]
  have g0 : Chg [bl] w3 (w3.setCell ⟨bl, l * 8 + o, none⟩ (.int .u64 va)).drew := ((Chg.refl [bl] w3).setCell _ _ _ (.inl (by simp))).drew
  have m0 := g0.keep n3 (by simpa using HPB.out)
  have PA := Lib.hid (P3.out.setL g0 f0)
  have CA := Lib.hid (C3.out.trans (g0.mono (by simp)))
  have hbA := PA.out.hc
  clear f0 g0 n3 hl3
  generalize (w3.setCell ⟨bl, l * 8 + o, none⟩ (.int .u64 va)).drew = wA at *
  obtain ⟨_, _, _, k0, _, _⟩ := ci_cells HX.out
  go_upto_region 20 with fail
  have f1 : (wA.setCell ⟨bc, i * 6 + 3, none⟩ (.bool false)).heap[bc]? = some (.cells (sq Ci.enc (xs.set i { x with lk := false }) []) 82 (0, 0)) := by rw [heap_setCell, if_pos rfl, hbA, rowSet_some, ci_lk HX.out]
  have g1 : Chg [bc] wA (wA.setCell ⟨bc, i * 6 + 3, none⟩ (.bool false)) := (Chg.refl [bc] wA).setCell _ _ _ (.inl (by simp))
  have m1 := g1.keep m0 (by simpa using HPN.out)
  generalize wA.setCell ⟨bc, i * 6 + 3, none⟩ (.bool false) = wB at *
  have hil : i < xs.length := (List.getElem?_eq_some_iff.1 HX.out).1
  have x1 : (xs.set i { x with lk := false })[i]? = some { x with lk := false } := List.getElem?_set_self hil
  have h2 := ci_has (xs := xs.set i { x with lk := false }) (i := i) (by simpa using hil) 82
  have f2 : (putRow wB bc (i * 6 + 4) (spC 0 0)).heap[bc]? = some (.cells (sq Ci.enc (xs.set i { x with lk := false, pl := (0, 0) }) []) 82 (0, 0)) := by rw [heap_putRow _ _ _ _ _ (by rw [spC_size, f1]; exact h2), if_pos rfl, f1, ci_pl x1, List.set_set]
  have g2 : Chg [bc] wA (putRow wB bc (i * 6 + 4) (spC 0 0)) := g1.trans ((Chg.refl [bc] wB).putRow _ _ _ (.inl (by simp)))
  have m2 := ((Chg.refl [bc] wB).putRow bc (i * 6 + 4) (spC 0 0) (.inl (by simp))).keep m1 (by simpa using HPN.out)
  go_upto_region 21 with fail
  clear f1 m1 g1 h2 x1
  generalize putRow wB bc (i * 6 + 4) (spC 0 0) = wC at *
  have x2 : (xs.set i { x with lk := false, pl := (0, 0) })[i]? = some { x with lk := false, pl := (0, 0) } := List.getElem?_set_self hil
  obtain ⟨_, _, _, k3, _, _⟩ := ci_cells x2
  dsimp only at k3
  clear k0
  have h4 : ¬ kd = 4 := by simpa using t4
  have DN := Lib.hid (PA.out.lock hi HX.out ⟨kd, co, (l : Int), (o : Int), va⟩ (b := false) (pl := (0, 0)) (by simp [h4]) (by simp [h4]) g2 f2)
  have CN := Lib.hid (CA.out.trans (g2.mono (by simp)))
  clear g2 x2 h4
  go_wp2_with fail
  go_end0
  exact ⟨rfl, _, _, DN.out, CN.out, (fun y h => Or.inl h)⟩
end
end Go.Proofs.Ytnocekhgabgffaa
end
section
namespace Go.Proofs.Ytnocekhgabgffaa
open Go.RowKit
set_option linter.unusedVariables false
set_option maxHeartbeats 1000000

set_option maxRecDepth 100000
attribute [local go_sem ↓] append_appS copy_copS clear_clrS make_mkS slice_slS lookup_lookS mput_mputS del_mdelS cell_row frozen_row heap_drew heap_drewN heap_alloc heap_past heap_setCell heap_putRow heap_setB loadEv storeEv loadBe storeBe loadSp storeSp loadNw storeNw loadLine storeLine evc_kd evc_co evc_li evc_wo evc_va bec_fl bec_li bec_wo bec_va nwC_0 nwC_1 spC_0 spC_1
attribute [local go_sem] rowCell_some rowFrozen_some rowHas_some rowIn_some rowPart_full rowPart_lit rowPut_full rowPut_lit rowSet_some size_putRow size_setB run_loadS run_storeS run_appS run_copS run_clrS run_mkS run_slS run_lookS run_mputS run_mdelS loadW_at storeW_at fit_all fit_le one_int one_bool one_pointer one_slice allOne_list putRow_new ne_size1 ne_size2 ne_size3 ne_size4 wideEv wideBe wideSp wideNw wideLine evc_size evc_one evc_ne evc_lit evc_z fold_evc bec_size bec_one bec_lit bec_ne bec_at bec_in spC_size spC_one nwC_size nwC_one nwC_ne nwC_set0 nwC_set1 nwC_lit bec_set0 bec_set1 bec_set2 bec_set3 spC_set0 spC_set1 spC_lit fold_spC spC_ne fold_nwC fold_bec fold_at vs_size vs_one ic_size ic_get
attribute [local simp ↓] heap_drew heap_drewN heap_alloc heap_past heap_setCell heap_putRow heap_setB
attribute [local simp] rowCell_some rowFrozen_some rowHas_some rowIn_some rowPart_full rowPart_lit rowPut_full rowPut_lit rowSet_some size_putRow size_setB fit_all putRow_new ne_size1 ne_size2 ne_size3 ne_size4 evc_size bec_size spC_size nwC_size vs_size fit_le
/-! ### A number that is counted -/
theorem oadd_any (g o : Nat) (x : Int) (w : World) (c : Array Value) (T : TypeId) (hg : w.heap[g]? = some (.cells c T (0, 0))) (hc : c[o]? = some (.int .i64 x)) (h0 : 0 ≤ x) (h1 : x ≤ 100000) :
    Calls Try.prog 36 #[.pointer (some ⟨g, o, none⟩), .int .i64 1] w fun e w' => e = .returned (.int .i64 (x + 1)) ∧ w' = w.setCell ⟨g, o, none⟩ (.int .i64 (x + 1)) := by
  have hadd := run_call_add (P := Try.prog) Try.func59 (by kernel_rfl) (by kernel_rfl) (by kernel_rfl) .i64 (by kernel_rfl) (a := ⟨g, o, none⟩) (x := x) (y := 1) (s := x + 1) (w := w) (by rw [cell_row, hg, rowCell_some, hc]) (by rw [frozen_row, hg, rowFrozen_some]) (by
    have : IntKind.i64.wrap (x + 1) = x + 1 := IntWalk.i64_in _ (by omega)
    simp [Op.intArith, this])
  clear hg hc h0 h1
  go_enter Try.func36, Try.ntmps36
  go_wp2
  go_ret
  exact ⟨rfl, rfl⟩
theorem oload_any (g o : Nat) (x : Int) (w : World) (c : Array Value) (T : TypeId) (hg : w.heap[g]? = some (.cells c T (0, 0))) (hc : c[o]? = some (.int .i64 x)) :
    Calls Try.prog 25 #[.pointer (some ⟨g, o, none⟩)] w fun e w' => e = .returned (.int .i64 x) ∧ w = w' := by
  have hl := run_call_load (P := Try.prog) Try.func37 (by kernel_rfl) (by kernel_rfl) (by kernel_rfl) .i64 (by kernel_rfl) (a := ⟨g, o, none⟩) (x := x) (w := w) (by rw [cell_row, hg, rowCell_some, hc])
  clear hg hc
  go_enter Try.func25, Try.ntmps25
  go_wp2
  go_ret
  exact ⟨rfl, rfl⟩
/-! ### A trial in memory -/
def trc (P : Option Addr) (a r : Int) : Array Value := #[.pointer P, .int .i64 a, .int .i64 r]
def TrialAt (w : World) (t : Nat) (P : Option Addr) (a r : Int) : Prop := w.heap[t]? = some (.cells (trc P a r) 69 (0, 0))
theorem verdict_any (w : World) (t : Nat) (P : Option Addr) (a r : Int) (h : TrialAt w t P a r) (x : Int) (hx : x = if r > 0 then 16 else 0) : Calls Try.prog 24 #[.pointer (some ⟨t, 0, none⟩)] w fun e w' => e = .returned (.int .i64 x) ∧ w = w' := by
  have h' := h
  unfold TrialAt trc at h'
  have L := Lib.hid (oload_any t 2 r w _ _ h' rfl)
  clear h h'
  by_cases h0 : r > 0
  · rw [if_pos h0] at hx
    subst hx
    have h0' : (0 : Int) < r := h0
    go_enter Try.func24, Try.ntmps24
    go_wp2_with (go_at_call 25; refine L.out.mono ?_; rintro e w' ⟨rfl, rfl⟩)
    go_ret
    exact ⟨rfl, rfl⟩
  · rw [if_neg h0] at hx
    subst hx
    have h0' : ¬ (0 : Int) < r := h0
    go_enter Try.func24, Try.ntmps24
    go_wp2_with (go_at_call 25; refine L.out.mono ?_; rintro e w' ⟨rfl, rfl⟩)
    go_ret
    exact ⟨rfl, rfl⟩
theorem allowed_any (w : World) (t : Nat) (P : Option Addr) (a r : Int) (h : TrialAt w t P a r) (h0 : 0 ≤ a) (h1 : a ≤ 100000) : Calls Try.prog 17 #[.pointer (some ⟨t, 0, none⟩)] w fun e w' => e = .returned (.int .i64 a) ∧ w = w' := by
  have h' := h
  unfold TrialAt trc at h'
  have L := Lib.hid (oload_any t 1 a w _ _ h' rfl)
  clear h h'
  go_enter Try.func17, Try.ntmps17
  go_wp2_with (go_at_call 25; refine L.out.mono ?_; rintro e w' ⟨rfl, rfl⟩)
  go_ret
  exact ⟨by go_num, rfl⟩
end Go.Proofs.Ytnocekhgabgffaa
end
section
namespace Go.Proofs.Ytnocekhgabgffaa
open Go.RowKit
set_option linter.unusedVariables false
set_option maxHeartbeats 1000000

set_option maxRecDepth 100000
attribute [local go_sem ↓] append_appS copy_copS clear_clrS make_mkS slice_slS lookup_lookS mput_mputS del_mdelS cell_row frozen_row heap_drew heap_drewN heap_alloc heap_past heap_setCell heap_putRow heap_setB loadEv storeEv loadBe storeBe loadSp storeSp loadNw storeNw loadLine storeLine evc_kd evc_co evc_li evc_wo evc_va bec_fl bec_li bec_wo bec_va nwC_0 nwC_1 spC_0 spC_1
attribute [local go_sem] rowCell_some rowFrozen_some rowHas_some rowIn_some rowPart_full rowPart_lit rowPut_full rowPut_lit rowSet_some size_putRow size_setB run_loadS run_storeS run_appS run_copS run_clrS run_mkS run_slS run_lookS run_mputS run_mdelS loadW_at storeW_at fit_all fit_le one_int one_bool one_pointer one_slice allOne_list putRow_new ne_size1 ne_size2 ne_size3 ne_size4 wideEv wideBe wideSp wideNw wideLine evc_size evc_one evc_ne evc_lit evc_z fold_evc bec_size bec_one bec_lit bec_ne bec_at bec_in spC_size spC_one nwC_size nwC_one nwC_ne nwC_set0 nwC_set1 nwC_lit bec_set0 bec_set1 bec_set2 bec_set3 spC_set0 spC_set1 spC_lit fold_spC spC_ne fold_nwC fold_bec fold_at vs_size vs_one ic_size ic_get
attribute [local simp ↓] heap_drew heap_drewN heap_alloc heap_past heap_setCell heap_putRow heap_setB
attribute [local simp] rowCell_some rowFrozen_some rowHas_some rowIn_some rowPart_full rowPart_lit rowPut_full rowPut_lit rowSet_some size_putRow size_setB fit_all putRow_new ne_size1 ne_size2 ne_size3 ne_size4 evc_size bec_size spC_size nwC_size vs_size fit_le
theorem act_ans (S : Bs) (i l : Nat) (wo va : Int) : actB S ⟨6, i, l, wo, va⟩ = S.ansS i l := by
  have e : actB S ⟨6, i, l, wo, va⟩ = if (sentOf (S.core i) l).length = 0 ∨ (sentOf (S.core i) l).headD 0 = S.ps.getD l 0 then none else some (S.setC i ((S.core i).ansE l)) := rfl
  rw [e]
  unfold Bs.ansS
  cases h : sentOf (S.core i) l with
  | nil => simp
  | cons a r => simp
theorem stop_to {n m : Nat} {w : World} {q : Nat} {F : List Nat} {S : Bs} {K : FuncId} {args : Array Value} (_h : BusM n m w q F S) {i : Nat} (hc : Calls Try.prog K args w fun r w' => r = .returned (.bool (!(S.core i).st)) ∧ BusTo n m w q F (S.stopC i) w') {o : Option Bs} (ho : o = if !(S.core i).st then some (S.setC i { S.core i with st := true }) else none) : Calls Try.prog K args w fun r w' => r = .returned (.bool o.isSome) ∧ BusTo n m w q F (o.getD S) w' := by
  refine hc.mono ?_
  rintro r w' ⟨rfl, c⟩
  subst ho
  unfold Bs.stopC at c
  cases hs : (S.core i).st
  · rw [hs] at c; exact ⟨rfl, c⟩
  · rw [hs] at c; exact ⟨rfl, c⟩
theorem put_to {n m : Nat} {w : World} {q : Nat} {F : List Nat} {S : Bs} {K : FuncId} {args : Array Value} (_h : BusM n m w q F S) {i : Nat} {y : Be} (hc : Calls Try.prog K args w fun r w' => r = .returned (.bool (!(S.core i).st)) ∧ BusTo n m w q F (S.putC i y) w') {o : Option Bs} (ho : o = if !(S.core i).st then some (S.setC i ((S.core i).putE y)) else none) : Calls Try.prog K args w fun r w' => r = .returned (.bool o.isSome) ∧ BusTo n m w q F (o.getD S) w' := by
  refine hc.mono ?_
  rintro r w' ⟨rfl, c⟩
  subst ho
  unfold Bs.putC at c
  cases hs : (S.core i).st
  · rw [hs] at c; exact ⟨rfl, c⟩
  · rw [hs] at c; exact ⟨rfl, c⟩
section
variable {n m : Nat} {w : World} {q : Nat} {F : List Nat} {S : Bs}
theorem read_to {K : FuncId} {args : Array Value} (h : BusM n m w q F S) {b : Bool} (hc : Calls Try.prog K args w fun r w' => r = .returned (.bool b) ∧ Chg [] w w') {o : Option Bs} (ho : o = if b then some S else none) : Calls Try.prog K args w fun r w' => r = .returned (.bool o.isSome) ∧ BusTo n m w q F (o.getD S) w' := by
  refine hc.mono ?_
  rintro r w' ⟨rfl, c⟩
  subst ho
  cases b
  · exact ⟨rfl, h.to c⟩
  · exact ⟨rfl, h.to c⟩
theorem isOf_nat {a : Int} {k : Nat} (h : isOfB a k = true) : ∃ i : Nat, a = (i : Int) ∧ i < k := by
  unfold isOfB at h
  simp only [Bool.and_eq_true, decide_eq_true_eq] at h
  exact ⟨a.toNat, by omega, by omega⟩
theorem do_ev (h : BusM n m w q F S) {N : Nat} (ok : S.Ok n m N) (hN : N ≤ 1000000) (e : Ev) : Calls Try.prog 35 #[.pointer (some ⟨q, 0, none⟩), .agg (evc e)] w fun r w' => r = .returned (.bool (doB S e).isSome) ∧ BusTo n m w q F ((doB S e).getD S) w' := by
  obtain ⟨kd, co, li, wo, va⟩ := e
  by_cases hk : kindB kd = true
  rotate_left
  · have hk' : kindB kd = false := by simpa using hk
    rw [show doB S ⟨kd, co, li, wo, va⟩ = none by simp [doB, hk']]
    have hl : lookA kd kindL = none := by
      unfold kindB at hk'
      have : ¬ (1 ≤ kd ∧ kd ≤ 14) := by simpa using hk'
      simp only [lookA, kindL]
      repeat (rw [if_neg (by omega)])
    exact (do_none h ok kd co li wo va (.inl hl)).mono fun r w' ⟨h1, h2⟩ => ⟨h1, h.to h2⟩
  cases hh : hasB S ⟨kd, co, li, wo, va⟩
  · rw [show doB S ⟨kd, co, li, wo, va⟩ = none by simp [doB, hh]]
    exact (do_none h ok kd co li wo va (.inr hh)).mono fun r w' ⟨h1, h2⟩ => ⟨h1, h.to h2⟩
  rw [show doB S ⟨kd, co, li, wo, va⟩ = (actB S ⟨kd, co, li, wo, va⟩).map (fun T => lastB T ⟨kd, co, li, wo, va⟩) by simp [doB, hh, hk]]
  have fin : ∀ o : Option Bs, (o.map fun T => lastB T ⟨kd, co, li, wo, va⟩).isSome = o.isSome := fun o => by cases o <;> rfl
  rw [fin]
  have hkd : kd = 1 ∨ kd = 2 ∨ kd = 3 ∨ kd = 4 ∨ kd = 5 ∨ kd = 6 ∨ kd = 7 ∨ kd = 8 ∨ kd = 9 ∨ kd = 10 ∨ kd = 11 ∨ kd = 12 ∨ kd = 13 ∨ kd = 14 := by
    unfold kindB at hk
    have : 1 ≤ kd ∧ kd ≤ 14 := by simpa using hk
    omega
  have hh0 := hh
  unfold hasB at hh
  simp only [ok.cs, ok.ps, Bool.and_eq_true, Bool.or_eq_true, Bool.not_eq_true'] at hh
  obtain ⟨⟨hC, hL⟩, hW⟩ := hh
  clear fin hk
  rcases hkd with rfl | rfl | rfl | rfl | rfl | rfl | rfl | rfl | rfl | rfl | rfl | rfl | rfl | rfl
  · obtain ⟨i, rfl, hi⟩ := isOf_nat (hC.resolve_left (by simp [namesC]))
    obtain ⟨l, rfl, hl⟩ := isOf_nat (hL.resolve_left (by simp [namesL]))
    obtain ⟨o, rfl, ho⟩ := isOf_nat (hW.resolve_left (by simp [namesW]))
    exact do_some h ok _ _ _ _ _ (by rfl) (call_enter14 Try.func44 (by kernel_rfl) rfl) hh0 _ (fun w1 h1 => read_to h1 (load_ev h1 ok hi hl ho 1 va) (by simp [actB, Bs.core, Option.not_isSome])) (fun _ => ⟨i, rfl, hi⟩)
  · obtain ⟨i, rfl, hi⟩ := isOf_nat (hC.resolve_left (by simp [namesC]))
    obtain ⟨l, rfl, hl⟩ := isOf_nat (hL.resolve_left (by simp [namesL]))
    obtain ⟨o, rfl, ho⟩ := isOf_nat (hW.resolve_left (by simp [namesW]))
    exact do_some h ok _ _ _ _ _ (by rfl) (call_enter14 Try.func45 (by kernel_rfl) rfl) hh0 _ (fun w1 h1 => read_to h1 (own_ev h1 ok hi hl ho 2 va) (by simp [actB])) (fun _ => ⟨i, rfl, hi⟩)
  · obtain ⟨i, rfl, hi⟩ := isOf_nat (hC.resolve_left (by simp [namesC]))
    obtain ⟨l, rfl, hl⟩ := isOf_nat (hL.resolve_left (by simp [namesL]))
    obtain ⟨o, rfl, ho⟩ := isOf_nat (hW.resolve_left (by simp [namesW]))
    exact do_some h ok _ _ _ _ _ (by rfl) (call_enter14 Try.func46 (by kernel_rfl) rfl) hh0 _ (fun w1 h1 => by rw [show actB S ⟨3, i, l, o, va⟩ = S.storeS i l o va from rfl]; exact store_ev h1 ok hN hi hl ho 3 va) (fun _ => ⟨i, rfl, hi⟩)
  · obtain ⟨i, rfl, hi⟩ := isOf_nat (hC.resolve_left (by simp [namesC]))
    obtain ⟨l, rfl, hl⟩ := isOf_nat (hL.resolve_left (by simp [namesL]))
    obtain ⟨o, rfl, ho⟩ := isOf_nat (hW.resolve_left (by simp [namesW]))
    exact do_some h ok _ _ _ _ _ (by rfl) (call_enter14 Try.func47 (by kernel_rfl) rfl) hh0 _ (fun w1 h1 => read_to h1 (change_ev h1 ok hi hl ho 4 va) (by simp [actB])) (fun _ => ⟨i, rfl, hi⟩)
  · obtain ⟨l, rfl, hl⟩ := isOf_nat (hL.resolve_left (by simp [namesL]))
    exact do_some h ok _ _ _ _ _ (by rfl) (call_enter14 Try.func48 (by kernel_rfl) rfl) hh0 _ (fun w1 h1 => push_ev h1 ok hN hl 5 co wo va) (fun hn => by simp [namesC] at hn)
  · obtain ⟨i, rfl, hi⟩ := isOf_nat (hC.resolve_left (by simp [namesC]))
    obtain ⟨l, rfl, hl⟩ := isOf_nat (hL.resolve_left (by simp [namesL]))
    exact do_some h ok _ _ _ _ _ (by rfl) (call_enter14 Try.func49 (by kernel_rfl) rfl) hh0 _ (fun w1 h1 => by rw [show actB S ⟨6, i, l, wo, va⟩ = S.ansS i l from act_ans S i l wo va]; exact answer_ev h1 ok hN hi hl 6 wo va) (fun _ => ⟨i, rfl, hi⟩)
  · obtain ⟨i, rfl, hi⟩ := isOf_nat (hC.resolve_left (by simp [namesC]))
    exact do_some h ok _ _ _ _ _ (by rfl) (call_enter14 Try.func50 (by kernel_rfl) rfl) hh0 _ (fun w1 h1 => read_to h1 (fence_ev h1 hi 7 li wo va) (by simp [actB])) (fun _ => ⟨i, rfl, hi⟩)
  · obtain ⟨i, rfl, hi⟩ := isOf_nat (hC.resolve_left (by simp [namesC]))
    exact do_some h ok _ _ _ _ _ (by rfl) (call_enter14 Try.func51 (by kernel_rfl) rfl) hh0 _ (fun w1 h1 => read_to h1 (tell_ev h1 hi 8 li wo va) (by simp [actB])) (fun _ => ⟨i, rfl, hi⟩)
  · obtain ⟨i, rfl, hi⟩ := isOf_nat (hC.resolve_left (by simp [namesC]))
    exact do_some h ok _ _ _ _ _ (by rfl) (call_enter14 Try.func52 (by kernel_rfl) rfl) hh0 _ (fun w1 h1 => stop_to h1 (stop_ev h1 hi 9 li wo va) rfl) (fun _ => ⟨i, rfl, hi⟩)
  · obtain ⟨i, rfl, hi⟩ := isOf_nat (hC.resolve_left (by simp [namesC]))
    exact do_some h ok _ _ _ _ _ (by rfl) (call_enter14 Try.func52 (by kernel_rfl) rfl) hh0 _ (fun w1 h1 => stop_to h1 (stop_ev h1 hi 10 li wo va) rfl) (fun _ => ⟨i, rfl, hi⟩)
  · exact do_some h ok _ _ _ _ _ (by rfl) (call_enter14 Try.func53 (by kernel_rfl) rfl) hh0 _ (fun w1 h1 => fail_ev h1 ok _) (fun hn => by simp [namesC] at hn)
  · obtain ⟨i, rfl, hi⟩ := isOf_nat (hC.resolve_left (by simp [namesC]))
    obtain ⟨l, rfl, hl⟩ := isOf_nat (hL.resolve_left (by simp [namesL]))
    obtain ⟨o, rfl, ho⟩ := isOf_nat (hW.resolve_left (by simp [namesW]))
    exact do_some h ok _ _ _ _ _ (by rfl) (call_enter14 Try.func54 (by kernel_rfl) rfl) hh0 _ (fun w1 h1 => put_to h1 (issue_ev h1 ok hN hi 12 l o va) rfl) (fun _ => ⟨i, rfl, hi⟩)
  · obtain ⟨i, rfl, hi⟩ := isOf_nat (hC.resolve_left (by simp [namesC]))
    obtain ⟨l, rfl, hl⟩ := isOf_nat (hL.resolve_left (by simp [namesL]))
    exact do_some h ok _ _ _ _ _ (by rfl) (call_enter14 Try.func55 (by kernel_rfl) rfl) hh0 _ (fun w1 h1 => by rw [show actB S ⟨13, i, l, wo, va⟩ = S.sendS i l from rfl]; exact send_ev h1 ok hN hi hl 13 wo va) (fun _ => ⟨i, rfl, hi⟩)
  · obtain ⟨i, rfl, hi⟩ := isOf_nat (hC.resolve_left (by simp [namesC]))
    obtain ⟨l, rfl, hl⟩ := isOf_nat (hL.resolve_left (by simp [namesL]))
    exact do_some h ok _ _ _ _ _ (by rfl) (call_enter14 Try.func56 (by kernel_rfl) rfl) hh0 _ (fun w1 h1 => put_to h1 (want_ev h1 ok hN hi 14 l wo va) rfl) (fun _ => ⟨i, rfl, hi⟩)
end
end Go.Proofs.Ytnocekhgabgffaa
end
section
namespace Go.Proofs.Ytnocekhgabgffaa
open Go.RowKit
set_option linter.unusedVariables false
set_option maxHeartbeats 1000000

set_option maxRecDepth 100000
attribute [local go_sem ↓] append_appS copy_copS clear_clrS make_mkS slice_slS lookup_lookS mput_mputS del_mdelS cell_row frozen_row heap_drew heap_drewN heap_alloc heap_past heap_setCell heap_putRow heap_setB loadEv storeEv loadBe storeBe loadSp storeSp loadNw storeNw loadLine storeLine evc_kd evc_co evc_li evc_wo evc_va bec_fl bec_li bec_wo bec_va nwC_0 nwC_1 spC_0 spC_1
attribute [local go_sem] rowCell_some rowFrozen_some rowHas_some rowIn_some rowPart_full rowPart_lit rowPut_full rowPut_lit rowSet_some size_putRow size_setB run_loadS run_storeS run_appS run_copS run_clrS run_mkS run_slS run_lookS run_mputS run_mdelS loadW_at storeW_at fit_all fit_le one_int one_bool one_pointer one_slice allOne_list putRow_new ne_size1 ne_size2 ne_size3 ne_size4 wideEv wideBe wideSp wideNw wideLine evc_size evc_one evc_ne evc_lit evc_z fold_evc bec_size bec_one bec_lit bec_ne bec_at bec_in spC_size spC_one nwC_size nwC_one nwC_ne nwC_set0 nwC_set1 nwC_lit bec_set0 bec_set1 bec_set2 bec_set3 spC_set0 spC_set1 spC_lit fold_spC spC_ne fold_nwC fold_bec fold_at vs_size vs_one ic_size ic_get
attribute [local simp ↓] heap_drew heap_drewN heap_alloc heap_past heap_setCell heap_putRow heap_setB
attribute [local simp] rowCell_some rowFrozen_some rowHas_some rowIn_some rowPart_full rowPart_lit rowPut_full rowPut_lit rowSet_some size_putRow size_setB fit_all putRow_new ne_size1 ne_size2 ne_size3 ne_size4 evc_size bec_size spC_size nwC_size vs_size fit_le
/-! ### Lines, Kept, Pending -/
section
variable {n m : Nat} {w : World} {q : Nat} {F : List Nat} {S : Bs}
/-- New lines. -/
def LinesOf (w : World) (n : Nat) (xs : List Int) (e : Ending) (w' : World) : Prop := ∃ g cap r, e = .returned (.slice (some ⟨g, 0, none⟩) n cap) ∧ w'.heap[g]? = some (.cells (bk xs r) 44 (0, 0)) ∧ w.heap.size ≤ g ∧ n ≤ cap ∧ Chg [] w w'
theorem blines_ok (h : BusM n m w q F S) {N : Nat} (ok : S.Ok n m N) : Calls Try.prog 20 #[.pointer (some ⟨q, 0, none⟩)] w (LinesOf w n S.ls) := by
  obtain ⟨bl, cl, kb, bp, bc, bm, xs, G, P⟩ := h
  have hq := P.hq
  unfold busc at hq
  obtain ⟨r, hr⟩ := P.hl
  have hsl := Sl.of_bk (n := n) hr ok.ls
  have hn := ok.n0
  have h64 := ok.n64
  clear P
  go_enter Try.func20, Try.ntmps20
  go_wp2_with (go_at_call 31; refine (clone_ok _ n _ _ w hsl hn (by omega)).mono ?_; rintro e w8 ⟨g, cap, r8, rfl, hl8, hge8, hcap, c8⟩)
  go_ret
  exact ⟨g, cap, r8, rfl, hl8, hge8, hcap, c8⟩
theorem bkept_ok (h : BusM n m w q F S) {N : Nat} (ok : S.Ok n m N) : Calls Try.prog 21 #[.pointer (some ⟨q, 0, none⟩)] w (LinesOf w n S.ks) := by
  obtain ⟨bl, cl, kb, bp, bc, bm, xs, G, P⟩ := h
  have hq := P.hq
  unfold busc at hq
  have hsl := Sl.of_bk (n := n) P.hk ok.ks
  have hn := ok.n0
  have h64 := ok.n64
  clear P
  go_enter Try.func21, Try.ntmps21
  go_wp2_with (go_at_call 31; refine (clone_ok _ n _ _ w hsl hn (by omega)).mono ?_; rintro e w8 ⟨g, cap, r8, rfl, hl8, hge8, hcap, c8⟩)
  go_ret
  exact ⟨g, cap, r8, rfl, hl8, hge8, hcap, c8⟩
end
end Go.Proofs.Ytnocekhgabgffaa
end
section
namespace Go.Proofs.Ytnocekhgabgffaa
open Go.RowKit
set_option linter.unusedVariables false
set_option maxHeartbeats 1000000

set_option maxRecDepth 100000
attribute [local go_sem ↓] append_appS copy_copS clear_clrS make_mkS slice_slS lookup_lookS mput_mputS del_mdelS cell_row frozen_row heap_drew heap_drewN heap_alloc heap_past heap_setCell heap_putRow heap_setB loadEv storeEv loadBe storeBe loadSp storeSp loadNw storeNw loadLine storeLine evc_kd evc_co evc_li evc_wo evc_va bec_fl bec_li bec_wo bec_va nwC_0 nwC_1 spC_0 spC_1
attribute [local go_sem] rowCell_some rowFrozen_some rowHas_some rowIn_some rowPart_full rowPart_lit rowPut_full rowPut_lit rowSet_some size_putRow size_setB run_loadS run_storeS run_appS run_copS run_clrS run_mkS run_slS run_lookS run_mputS run_mdelS loadW_at storeW_at fit_all fit_le one_int one_bool one_pointer one_slice allOne_list putRow_new ne_size1 ne_size2 ne_size3 ne_size4 wideEv wideBe wideSp wideNw wideLine evc_size evc_one evc_ne evc_lit evc_z fold_evc bec_size bec_one bec_lit bec_ne bec_at bec_in spC_size spC_one nwC_size nwC_one nwC_ne nwC_set0 nwC_set1 nwC_lit bec_set0 bec_set1 bec_set2 bec_set3 spC_set0 spC_set1 spC_lit fold_spC spC_ne fold_nwC fold_bec fold_at vs_size vs_one ic_size ic_get
attribute [local simp ↓] heap_drew heap_drewN heap_alloc heap_past heap_setCell heap_putRow heap_setB
attribute [local simp] rowCell_some rowFrozen_some rowHas_some rowIn_some rowPart_full rowPart_lit rowPut_full rowPut_lit rowSet_some size_putRow size_setB fit_all putRow_new ne_size1 ne_size2 ne_size3 ne_size4 evc_size bec_size spC_size nwC_size vs_size fit_le
/-- A bus that is new to the world W. -/
def BusW (n m : Nat) (W w : World) (q : Nat) (S : Bs) : Prop := ∃ F, BusM n m w q F S ∧ (∀ z ∈ F, W.heap.size ≤ z) ∧ Chg [] W w
section
variable {n m : Nat} {W w w' : World} {q : Nat} {S : Bs}
theorem BusW.chg (h : BusW n m W w q S) (hc : Chg [] w w') : BusW n m W w' q S := by
  obtain ⟨F, h1, h2, h3⟩ := h
  exact ⟨F, h1.keep hc (by simp), h2, h3.trans hc⟩
theorem BusW.all (h : BusW n m W w q S) : Chg [] W w := by obtain ⟨_, _, _, h⟩ := h; exact h
theorem BusW.weak {V : World} (h : BusW n m W w q S) (hc : Chg [] V W) : BusW n m V w q S := by
  obtain ⟨F, h1, h2, h3⟩ := h
  exact ⟨F, h1, fun z hz => Nat.le_trans hc.size (h2 z hz), hc.trans h3⟩
theorem new_w (m n v : Nat) (c3 c4 c5 c6 : Int) (hg : goodB m n v c3 c4 c5 c6 = true) (w : World) : Calls Try.prog 22 #[.agg #[.int .i64 m, .int .i64 n, .int .i64 v, .int .i64 c3, .int .i64 c4, .int .i64 c5, .int .i64 c6], .slice none 0 0] w fun e w' => ∃ q, e = .returned (.tuple #[.pointer (some ⟨q, 0, none⟩), .int .i64 0]) ∧ BusW n m w w' q (bs0 n m v) := by
  refine (bnew_ok m n v c3 c4 c5 c6 hg w).mono ?_
  rintro e w' ⟨q, F, rfl, h1, h2, h3⟩
  exact ⟨q, rfl, F, h1, h2, h3⟩
end
theorem bs0_ok {n m v : Nat} (h0 : 0 < n) (h64 : n ≤ 64) (hm : m ≤ 8) (hv : v ≤ n) : (bs0 n m v).Ok n m 0 :=
  ⟨h0, h64, hm, hv, by simp [bs0], by simp [bs0], by simp [bs0], by simp [bs0], fun p hp => by have := List.eq_of_mem_replicate hp; subst this; simp, fun c hc => by have := List.eq_of_mem_replicate hc; subst this; exact bcZ_small 0⟩
theorem results_cf {fn : Func} {p : Tmp} (h : fn.results = #[.cell p 23]) (tmps : Array Value) (w : World) (q : Nat) (C : Array Value) (hC : C.size = 7) (fr : Nat × Nat)
    (hp : tmps.getD p undef = .pointer (some ⟨q, 0, none⟩)) (hb : w.heap[q]? = some (.cells C 23 fr)) : (results fn tmps).run Try.prog w = .ok (.agg C) w := by
  have hp' : tmps[p]?.getD undef = .pointer (some ⟨q, 0, none⟩) := by simpa using hp
  have := run_loadVar_row (P := Try.prog) w q 23 23 C fr _ hb Try.underlying23 rfl (by rw [hC]; kernel_rfl)
  simp [results, h, hp', asAddr, this]
theorem results_ev14 {fn : Func} {p : Tmp} (h : fn.results = #[.cell p 41]) (tmps : Array Value) (w : World) (q : Nat) (x : Ev) (fr : Nat × Nat)
    (hp : tmps.getD p undef = .pointer (some ⟨q, 0, none⟩)) (hb : w.heap[q]? = some (.cells (evc x) 41 fr)) : (results fn tmps).run Try.prog w = .ok (.agg (evc x)) w := by
  have hp' : tmps[p]?.getD undef = .pointer (some ⟨q, 0, none⟩) := by simpa using hp
  have := run_loadVar_row (P := Try.prog) w q 41 41 (evc x) fr _ hb Try.underlying41 rfl (by rw [evc_size]; kernel_rfl)
  simp [results, h, hp', asAddr, this]
attribute [local go_sem ↓] evc_set0 evc_set1 evc_set2 evc_set3 evc_set4
theorem at_any (k v : Int) (w : World) : Calls Try.prog 14 #[.int .i64 k, .int .u64 v] w fun e w' => e = .returned (.agg (evc ⟨k, 0, 3, 1, v⟩)) ∧ Chg [] w w' := by
  go_enter Try.func14, Try.ntmps14
  go_wp2_with fail
  refine bodyPost_ret (v := .agg (evc ⟨k, 0, 3, 1, v⟩)) (results_ev14 (by rfl) _ _ w.heap.size _ (0, 0) (by rfl) (by simp; try rfl)) (by rfl) ⟨rfl, (Chg.refl [] w).alloc _⟩
attribute [local go_sem ↓] loadCf storeCf
attribute [local go_sem] wideCf
theorem plain_any (w : World) : Calls Try.prog 15 #[] w fun e w' => e = .returned (.agg #[.int .i64 (2 : Nat), .int .i64 (6 : Nat), .int .i64 (1 : Nat), .int .i64 1, .int .i64 2, .int .i64 2, .int .i64 2]) ∧ Chg [] w w' := by
  go_enter Try.func15, Try.ntmps15
  go_wp2_with fail
  refine bodyPost_ret (v := .agg #[.int .i64 (2 : Nat), .int .i64 (6 : Nat), .int .i64 (1 : Nat), .int .i64 1, .int .i64 2, .int .i64 2, .int .i64 2]) (results_cf (by rfl) _ _ w.heap.size _ (by rfl) (0, 0) (by rfl) (by simp; try rfl)) (by rfl) ⟨rfl, (Chg.refl [] w).alloc _⟩
/-! ### What every statement of layer 14 wakes -/
theorem LinesOf.all {w w' : World} {n : Nat} {xs : List Int} {e : Ending} (h : LinesOf w n xs e w') : Chg [] w w' := by obtain ⟨_, _, _, _, _, _, _, h⟩ := h; exact h
end Go.Proofs.Ytnocekhgabgffaa
end
