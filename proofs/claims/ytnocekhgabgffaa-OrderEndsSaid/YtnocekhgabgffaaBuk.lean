/- A flush that is answered: walked. No condition. -/
import Derived.Test.YtnocekhgabgffaaBui
namespace Go.Proofs.Ytnocekhgabgffaa
open Go.RowKit
set_option linter.unusedVariables false
set_option maxHeartbeats 1000000

set_option maxRecDepth 100000
attribute [local go_sem ↓] append_appS copy_copS clear_clrS make_mkS slice_slS lookup_lookS mput_mputS del_mdelS cell_row frozen_row heap_drew heap_drewN heap_alloc heap_past heap_setCell heap_putRow heap_setB loadEv storeEv loadBe storeBe loadSp storeSp loadNw storeNw loadLine storeLine evc_kd evc_co evc_li evc_wo evc_va bec_fl bec_li bec_wo bec_va nwC_0 nwC_1 spC_0 spC_1
attribute [local go_sem] rowCell_some rowFrozen_some rowHas_some rowIn_some rowPart_full rowPart_lit rowPut_full rowPut_lit rowSet_some size_putRow size_setB run_loadS run_storeS run_appS run_copS run_clrS run_mkS run_slS run_lookS run_mputS run_mdelS loadW_at storeW_at fit_all fit_le one_int one_bool one_pointer one_slice allOne_list putRow_new ne_size1 ne_size2 ne_size3 ne_size4 wideEv wideBe wideSp wideNw wideLine evc_size evc_one evc_ne evc_lit evc_z fold_evc bec_size bec_one bec_lit bec_ne bec_at bec_in spC_size spC_one nwC_size nwC_one nwC_ne nwC_set0 nwC_set1 nwC_lit bec_set0 bec_set1 bec_set2 bec_set3 spC_set0 spC_set1 spC_lit fold_spC spC_ne fold_nwC fold_bec fold_at vs_size vs_one ic_size ic_get
attribute [local simp ↓] heap_drew heap_drewN heap_alloc heap_past heap_setCell heap_putRow heap_setB
attribute [local simp] rowCell_some rowFrozen_some rowHas_some rowIn_some rowPart_full rowPart_lit rowPut_full rowPut_lit rowSet_some size_putRow size_setB fit_all putRow_new ne_size1 ne_size2 ne_size3 ne_size4 evc_size bec_size spC_size nwC_size vs_size fit_le
theorem cell_of_part {C : Array Value} {T : TypeId} {f : Nat × Nat} {o : Nat} {v : Value} (h : rowPart (some (.cells C T f)) o 1 = #[v]) : C[o]? = some v := by
  rw [rowPart_some] at h
  have h2 : (C.toList.drop o).take 1 = [v] := by simpa using congrArg Array.toList h
  have h3 := congrArg (fun l => l[0]?) h2
  simpa [List.getElem?_take, List.getElem?_drop] using h3
section
variable {n m : Nat} {w : World} {q : Nat} {F : List Nat} {S : Bs}
def Bs.ansS (S : Bs) (i l : Nat) : Option Bs :=
  match sentOf (S.core i) l with
  | [] => none
  | a :: _ => if a = S.ps.getD l 0 then none else some (S.setC i ((S.core i).ansE l))
theorem answer_ev (h : BusM n m w q F S) {N : Nat} (ok : S.Ok n m N) (hN : N ≤ 1000000) {i l : Nat} (hi : i < m) (hl : l < n) (kd wo va : Int) : Calls Try.prog 49 #[.pointer (some ⟨q, 0, none⟩), .agg (evc ⟨kd, i, l, wo, va⟩)] w fun r w' => r = .returned (.bool (S.ansS i l).isSome) ∧ BusTo n m w q F ((S.ansS i l).getD S) w' := by
  obtain ⟨bl, cl, kb, bp, bc, bm, xs, G, P0⟩ := h
  obtain ⟨n1, n2⟩ := one_new w (.cells (evc ⟨kd, i, l, wo, va⟩) 41)
  have P := P0.keep n2 (by simp)
  have hpF : ∀ z ∈ F, z ≠ w.heap.size := fun z hz e => by have := P0.old z hz; omega
  have N2 := Lib.hid n2
  clear n2 P0
  go_enter Try.func49, Try.ntmps49
  go_upto_region 1 with fail
  generalize w.alloc (.cells (evc ⟨kd, i, l, wo, va⟩) 41) = w1 at *
  generalize w.heap.size = p at *
  have hq := P.hq
  unfold busc at hq
  obtain ⟨x, g, hco, hg, hcs⟩ := P.core hi
  have hcb := hco.hb
  obtain ⟨c0, c1, c2, c3, c4, c5, c6, c7, c8⟩ := cx_cells hco.hx
  rw [hco.co.st] at c3
  have i0 : (0 : Int) ≤ (i : Int) := by omega
  have i1 : (i : Int) < (m : Int) := by omega
  have hsm := ok.cb _ (List.mem_of_getElem? hcs)
  have htl := hsm.tm
  have HCO := Lib.hid hco
  have HP := Lib.hid P
  have l0 : (0 : Int) ≤ (l : Int) := by omega
  have l1 : (l : Int) < (n : Int) := by omega
  have hps : l < S.ps.length := by rw [ok.ps]; exact hl
  have hp4 := P.hp
  have hp5 : (ic S.ps)[l]? = some (.int .i64 (S.ps.getD l 0)) := by
    rw [ic_get, List.getD_eq_getElem?_getD, List.getElem?_eq_getElem hps]; rfl
  generalize hpv : S.ps.getD l 0 = pv at *
  have HPV := Lib.hid hpv
  clear hpv hps ok
  obtain ⟨Fb, hs', hF, hv, hmm, ⟨ot, hot, hmt⟩, htm, hvt⟩ := hco.co.at_
  have hlk := look_tm (mt := x.mt) hmt l
  have hxs := hsOf_tm htm l
  have hv0 := hsOf_vq hvt l
  have hle0 := hv0.le
  have hlen : (hsOf l hs').xs.length ≤ N := by
    rw [hxs]; unfold sentOf
    cases e : lookA (l : Int) (S.core i).tm with
    | none => simp
    | some u => exact htl _ (lookA_mem e)
  obtain ⟨R, r1, r2, r3⟩ := foot_at l hs'
  have hF0 : ∀ z ∈ (hsOf l hs').F, z ∈ g := fun z hz => hF.mem_iff.2 (by simp [r1.mem_iff, hz])
  have hmg : x.mt ∈ g := hF.mem_iff.2 (by simp)
  have hmtF : x.mt ∉ (hsOf l hs').F := fun h => by
    have hnd := hF.nodup_iff.1 hco.nd
    simp only [List.nodup_cons, List.mem_append] at hnd
    exact hnd.2.1 (.inr (r1.mem_iff.2 (by simp [h])))
  have hmb : x.mt ≠ bc := fun e => hco.nb (e ▸ hmg)
  have hgF : ∀ z ∈ g, z ∈ F := fun z hz => P.per.mem_iff.2 (List.mem_append.2 (.inr (List.mem_flatten.2 ⟨g, List.mem_of_getElem? hg, hz⟩)))
  have hmp : x.mt ≠ p := hpF _ (hgF _ hmg)
  have HF := Lib.hid hF
  have HV := Lib.hid hv
  have HMM := Lib.hid hmm
  have HMT := Lib.hid hmt
  have HTM := Lib.hid htm
  have HVT := Lib.hid hvt
  have HF0 := Lib.hid hF0
  have HR1 := Lib.hid r1
  have HR2 := Lib.hid r2
  have HR3 := Lib.hid r3
  have HMF := Lib.hid hmtF
  clear hF hv hmm htm hvt hF0 r1 r2 r3 hmg hgF htl hsm hcs hmtF
  cases hsx : (hsOf l hs').xs with
  | nil =>
    rw [hsx] at hlk hxs
    have HXS := Lib.hid hxs
    simp only [List.length_nil] at hlk
    have HM := Lib.hid (show BusM n m w1 q F S from ⟨_, _, _, _, _, _, _, _, P⟩)
    clear P hco hp4 hp5 hmt hv0 hlen hxs hle0
    go_region
    go_upto_region 2 with fail
    go_region
    go_upto_region 3 with fail
    go_region
    go_wp2_with fail
    go_ret
    have e0 : S.ansS i l = none := by unfold Bs.ansS; rw [← HXS.out]
    rw [e0]
    exact ⟨rfl, (HM.out.to ((((Chg.refl [] w1).drew).drew).drew)).of N2.out⟩
  | cons a rest =>
    rw [hsx] at hlk hxs hv0 hlen hle0
    have HXS := Lib.hid hxs
    have HSX := Lib.hid hsx
    obtain ⟨be, o, C, hFe, hA, hbe, hin, hpart⟩ := hv0.first intEnc_len
    have hvt0 := hv0.tail intEnc_len
    have hC := cell_of_part (show rowPart (some (.cells C 3 (0, 0))) o 1 = #[.int .i64 a] from hpart)
    simp only [List.length_cons] at hlk hlen hle0
    have HM := Lib.hid (show BusM n m w1 q F S from ⟨_, _, _, _, _, _, _, _, P⟩)
    have t0 : (((rest.length : Nat) : Int) + 1 == 0) = false := by simp; omega
    have t1 : (0 : Int) < ((rest.length : Nat) : Int) + 1 := by omega
    have HV0 := Lib.hid hvt0
    have hsl := fun w => slR_tail eltI (hsOf l hs').A rest.length (hsOf l hs').cap hle0 w
    have HA := Lib.hid hA
    have HMT2 := Lib.hid hmt
    rw [hA] at hlk
    clear P hco hmt hv0 hlen hxs hpart hsx hvt0 hA hFe hin hle0
    by_cases hap : a = pv
    · have ta : (a == pv) = true := by simpa using hap
      have e0 : S.ansS i l = none := by unfold Bs.ansS; rw [← HXS.out]; simp only; rw [HPV.out, if_pos hap]
      have E0 := Lib.hid e0
      clear hap e0 hsl
      go_region
      go_upto_region 2 with fail
      go_region
      go_upto_region 3 with fail
      go_region
      go_wp2_with fail
      go_ret
      rw [E0.out]
      exact ⟨rfl, (HM.out.to ((((Chg.refl [] w1).drew).drew).drew)).of N2.out⟩
    · have ta : (a == pv) = false := by simpa using hap
      have e0 : S.ansS i l = some (S.setC i ((S.core i).ansE l)) := by unfold Bs.ansS; rw [← HXS.out]; simp only; rw [HPV.out, if_neg hap]
      have E0 := Lib.hid e0
      rw [HA.out] at hsl
      obtain ⟨o', ho', hput⟩ := put_tm (mt := x.mt) HMT.out l ⟨(hsOf l hs').F, behind 1 (hsOf l hs').A (hsOf l hs').cap, (hsOf l hs').cap - 1, rest⟩
      simp only [HA.out] at hput
      have HO' := Lib.hid ho'
      clear hap e0 ho'
      go_region
      go_upto_region 2 with fail
      go_region
      go_upto_region 3 with fail
      go_region
      go_upto_region 5 with fail
      go_region
      have d5 : Chg [x.mt] w1 (setB w1.drew.drew.drew.drew x.mt o') := (((((Chg.refl [x.mt] w1).drew).drew).drew).drew).setB _ _ (.inl (by simp))
      have ot5 : (setB w1.drew.drew.drew.drew x.mt o').heap[x.mt]? = some o' := by rw [heap_setB, if_pos rfl]; simp only [heap_drew]; rw [hot]; rfl
      generalize setB w1.drew.drew.drew.drew x.mt o' = w5 at *
      have n5 := d5.keep n1 (by simpa using Ne.symm hmp)
      have hb5 := d5.keep hcb (by simpa using Ne.symm hmb)
      have D5 := Lib.hid d5
      have OT5 := Lib.hid ot5
      have hFn : (hsOf l hs').F.Nodup := (hsOf_vq HVT.out l).nodup
      have HFN := Lib.hid hFn
      have sxs : (hsOf (l : Int) hs').xs = sentOf (S.core i) l := hsOf_tm HTM.out l
      have stl : (sentOf (S.core i) l).tail = rest := by rw [← sxs, HSX.out]; rfl
      have sln : (sentOf (S.core i) l).length = rest.length + 1 := by rw [← sxs, HSX.out]; rfl
      have STL := Lib.hid stl
      have SLN := Lib.hid sln
      clear d5 n1 hcb hot hlk hput hFn sxs stl sln
      have vq5 : ∀ w', Chg [x.mt] w5 w' → Vq 1 3 intEnc w' (hsOf l hs').F (behind 1 (hsOf l hs').A (hsOf l hs').cap) ((hsOf l hs').cap - 1) rest := fun w' hc => ((HV0.out.keep D5.out (fun z hz => by simp; rintro rfl; exact HMF.out hz))).keep hc (fun z hz => by simp; rintro rfl; exact HMF.out hz)
      have VQ5 := Lib.hid vq5
      clear vq5
      by_cases hr : rest.length = 0
      · have t3 : (((rest.length : Nat) : Int) + 1 == 1) = true := by rw [hr]; rfl
        obtain ⟨o6, ho6, hdel⟩ := del_tm (mt := x.mt) HO'.out l 0
        have HO6 := Lib.hid ho6
        have HR := Lib.hid hr
        clear ho6 hr
        go_wp2_with fail
        go_region
        go_wp2_with fail
        go_ret
        rw [E0.out]
        refine ⟨rfl, ?_⟩
        have d6 : Chg [x.mt] w5 (setB w5.drew x.mt o6) := ((Chg.refl [x.mt] w5).drew).setB _ _ (.inl (by simp))
        have ht := HCO.out.madeT (w' := setB w5.drew x.mt o6) (hs2 := dropA (l : Int) (putA (l : Int) ⟨(hsOf l hs').F, behind 1 (hsOf l hs').A (hsOf l hs').cap, (hsOf l hs').cap - 1, rest⟩ hs')) (F2 := []) HF.out HV.out HMM.out HVT.out HR1.out (HR3.out _).1 (by simp) (by simp) ((D5.out.trans d6).mono (fun z hz => .inl (by simp at hz; simp [hz]))) ⟨o6, by rw [heap_setB, if_pos rfl, heap_drew, OT5.out]; rfl, HO6.out⟩ (fun u hu => .inr ((HR3.out _).2 u hu))
        rw [show onA Hs.xs (dropA (l : Int) (putA (l : Int) ⟨(hsOf l hs').F, behind 1 (hsOf l hs').A (hsOf l hs').cap, (hsOf l hs').cap - 1, rest⟩ hs')) = ((S.core i).ansE l).tm by
          rw [← dropA_on, ← putA_on, HTM.out]
          unfold Bc.ansE
          simp only [SLN.out, STL.out, HR.out, if_true]] at ht
        obtain ⟨F6, xs6, G6, P6, q6, f6⟩ := HP.out.setc hg (c' := (S.core i).ansE l) ht
        exact (show BusTo n m w1 q F (S.setC i ((S.core i).ansE l)) _ from ⟨F6, ⟨_, _, _, _, _, _, _, _, P6⟩, q6, f6⟩).of N2.out
      · have t3 : (((rest.length : Nat) : Int) + 1 == 1) = false := by simp; omega
        have HR := Lib.hid hr
        clear hr
        go_wp2_with fail
        go_ret
        rw [E0.out]
        refine ⟨rfl, ?_⟩
        have ht := HCO.out.madeT (w' := w5) (hs2 := putA (l : Int) ⟨(hsOf l hs').F, behind 1 (hsOf l hs').A (hsOf l hs').cap, (hsOf l hs').cap - 1, rest⟩ hs') (F2 := (hsOf l hs').F) HF.out HV.out HMM.out HVT.out HR1.out (HR2.out _).1 (fun z hz => .inl hz) HFN.out (D5.out.mono (fun z hz => .inl (by simp at hz; simp [hz]))) ⟨o', OT5.out, HO'.out⟩ (fun u hu => by
          rcases (HR2.out _).2 u hu with h | h
          · subst h; exact .inl (VQ5.out w5 (Chg.refl _ _))
          · exact .inr h)
        rw [show onA Hs.xs (putA (l : Int) ⟨(hsOf l hs').F, behind 1 (hsOf l hs').A (hsOf l hs').cap, (hsOf l hs').cap - 1, rest⟩ hs') = ((S.core i).ansE l).tm by
          rw [← putA_on, HTM.out]
          unfold Bc.ansE
          simp only [SLN.out, STL.out]
          rw [if_neg (by have := HR.out; omega)]] at ht
        obtain ⟨F6, xs6, G6, P6, q6, f6⟩ := HP.out.setc hg (c' := (S.core i).ansE l) ht
        exact (show BusTo n m w1 q F (S.setC i ((S.core i).ansE l)) _ from ⟨F6, ⟨_, _, _, _, _, _, _, _, P6⟩, q6, f6⟩).of N2.out
end
end Go.Proofs.Ytnocekhgabgffaa
