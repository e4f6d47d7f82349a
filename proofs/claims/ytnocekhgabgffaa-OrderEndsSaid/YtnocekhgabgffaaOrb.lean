/- Trials: walked. No condition. -/
import Derived.Test.YtnocekhgabgffaaOra
import Derived.Test.YtnocekhgabgffaaBnw
import Derived.Test.YtnocekhgabgffaaBwx
namespace Go.Proofs.Ytnocekhgabgffaa
open Go.RowKit
set_option linter.unusedVariables false
set_option maxHeartbeats 1000000

set_option maxRecDepth 100000
attribute [local go_sem ↓] append_appS copy_copS clear_clrS make_mkS slice_slS lookup_lookS mput_mputS del_mdelS cell_row frozen_row heap_drew heap_drewN heap_alloc heap_past heap_setCell heap_putRow heap_setB loadEv storeEv loadBe storeBe loadSp storeSp loadNw storeNw loadLine storeLine evc_kd evc_co evc_li evc_wo evc_va bec_fl bec_li bec_wo bec_va nwC_0 nwC_1 spC_0 spC_1
attribute [local go_sem] rowCell_some rowFrozen_some rowHas_some rowIn_some rowPart_full rowPart_lit rowPut_full rowPut_lit rowSet_some size_putRow size_setB run_loadS run_storeS run_appS run_copS run_clrS run_mkS run_slS run_lookS run_mputS run_mdelS loadW_at storeW_at fit_all fit_le one_int one_bool one_pointer one_slice allOne_list putRow_new ne_size1 ne_size2 ne_size3 ne_size4 wideEv wideBe wideSp wideNw wideLine evc_size evc_one evc_ne evc_lit evc_z fold_evc bec_size bec_one bec_lit bec_ne bec_at bec_in spC_size spC_one nwC_size nwC_one nwC_ne nwC_set0 nwC_set1 nwC_lit bec_set0 bec_set1 bec_set2 bec_set3 spC_set0 spC_set1 spC_lit fold_spC spC_ne fold_nwC fold_bec fold_at vs_size vs_one ic_size ic_get
attribute [local simp ↓] heap_drew heap_drewN heap_alloc heap_past heap_setCell heap_putRow heap_setB
attribute [local simp] rowCell_some rowFrozen_some rowHas_some rowIn_some rowPart_full rowPart_lit rowPut_full rowPut_lit rowSet_some size_putRow size_setB fit_all putRow_new ne_size1 ne_size2 ne_size3 ne_size4 evc_size bec_size spC_size nwC_size vs_size fit_le
theorem tdo_no {n m N : Nat} {W w : World} {q t : Nat} {S : Bs} {a r : Int} (h : BusX n m W w q S [t]) (ht : W.heap.size ≤ t) (hT : TrialAt w t (some ⟨q, 0, none⟩) a r) (ok : S.Ok n m N) (hN : N ≤ 1000) (ha : 0 ≤ a ∧ a ≤ 1000) (hr : 0 ≤ r ∧ r ≤ 1000) {e : Ev} (hd : doB S e = none) :
    Calls Try.prog 23 #[.pointer (some ⟨t, 0, none⟩), .agg (evc e)] w fun x w' => x = .returned (.bool false) ∧ BusX n m W w' q S [t] ∧ TrialAt w' t (some ⟨q, 0, none⟩) a (r + 1) := by
  obtain ⟨n1, n2⟩ := one_new w (.cells (evc e) 41)
  have H0 := Lib.hid (h.chg n2 (by simp))
  have T0 : (w.alloc (.cells (evc e) 41)).heap[t]? = some (.cells (trc (some ⟨q, 0, none⟩) a r) 69 (0, 0)) := n2.keep hT (by simp)
  unfold trc at T0
  have OK := Lib.hid ok
  have HA := Lib.hid ha
  have HR := Lib.hid hr
  have HT := Lib.hid ht
  have HD := Lib.hid hd
  clear h ht hT ok n2 ha hr hd
  go_enter Try.func23, Try.ntmps23
  go_upto_region 1 with fail
  generalize w.alloc (.cells (evc e) 41) = w1 at *
  generalize w.heap.size = p at *
  have H0d := Lib.hid (H0.out.chg (Chg.refl [] w1).drew (by simp))
  have T0d : w1.drew.heap[t]? = some (.cells #[.pointer (some ⟨q, 0, none⟩), .int .i64 a, .int .i64 r] 69 (0, 0)) := T0
  go_region_with (go_at_call 35; refine (do_x H0d.out OK.out (by omega) e).mono ?_; rintro x w2 ⟨rfl, h2, h3⟩; rw [HD.out] at h2 ⊢; have H2 := Lib.hid h2; have T2 := (h3 t (by simp)).trans T0d; clear h2 h3)
  all_goals
    go_wp2_with (go_at_call 36; refine (oadd_any t 2 r _ _ _ T2 rfl HR.out.1 (by have := HR.out; omega)).mono ?_; rintro x w3 ⟨rfl, rfl⟩)
    go_ret
    refine ⟨rfl, H2.out.chg ((Chg.refl [t] _).setCell _ _ _ (.inl (by simp))) (by simp; exact HT.out), ?_⟩
    unfold TrialAt
    rw [heap_setCell, if_pos rfl, T2, rowSet_some]; rfl
theorem tdo_yes {n m N : Nat} {W w : World} {q t : Nat} {S T : Bs} {a r : Int} (h : BusX n m W w q S [t]) (ht : W.heap.size ≤ t) (hT : TrialAt w t (some ⟨q, 0, none⟩) a r) (ok : S.Ok n m N) (hN : N ≤ 1000) (ha : 0 ≤ a ∧ a ≤ 1000) (hr : 0 ≤ r ∧ r ≤ 1000) {e : Ev} (hd : doB S e = some T) :
    Calls Try.prog 23 #[.pointer (some ⟨t, 0, none⟩), .agg (evc e)] w fun x w' => x = .returned (.bool true) ∧ BusX n m W w' q T [t] ∧ TrialAt w' t (some ⟨q, 0, none⟩) (a + 1) r := by
  obtain ⟨n1, n2⟩ := one_new w (.cells (evc e) 41)
  have H0 := Lib.hid (h.chg n2 (by simp))
  have T0 : (w.alloc (.cells (evc e) 41)).heap[t]? = some (.cells (trc (some ⟨q, 0, none⟩) a r) 69 (0, 0)) := n2.keep hT (by simp)
  unfold trc at T0
  have OK := Lib.hid ok
  have HA := Lib.hid ha
  have HR := Lib.hid hr
  have HT := Lib.hid ht
  have HD := Lib.hid hd
  clear h ht hT ok n2 ha hr hd
  go_enter Try.func23, Try.ntmps23
  go_upto_region 1 with fail
  generalize w.alloc (.cells (evc e) 41) = w1 at *
  generalize w.heap.size = p at *
  have H0d := Lib.hid (H0.out.chg (Chg.refl [] w1).drew (by simp))
  have T0d : w1.drew.heap[t]? = some (.cells #[.pointer (some ⟨q, 0, none⟩), .int .i64 a, .int .i64 r] 69 (0, 0)) := T0
  go_region_with (go_at_call 35; refine (do_x H0d.out OK.out (by omega) e).mono ?_; rintro x w2 ⟨rfl, h2, h3⟩; rw [HD.out] at h2 ⊢; have H2 := Lib.hid h2; have T2 := (h3 t (by simp)).trans T0d; clear h2 h3)
  all_goals
    go_wp2_with (go_at_call 36; refine (oadd_any t 1 a _ _ _ T2 rfl HA.out.1 (by have := HA.out; omega)).mono ?_; rintro x w3 ⟨rfl, rfl⟩)
    go_ret
    refine ⟨rfl, H2.out.chg ((Chg.refl [t] _).setCell _ _ _ (.inl (by simp))) (by simp; exact HT.out), ?_⟩
    unfold TrialAt
    rw [heap_setCell, if_pos rfl, T2, rowSet_some]; rfl
attribute [local go_sem ↓] loadCf storeCf
attribute [local go_sem] wideCf
theorem trialOf_ok {n m : Nat} (c0 c1 c2 c3 c4 c5 c6 : Int) (Ai : Option Addr) (ki ci : Nat) {A : Option Addr} {N cN : Nat} (xs : List Ev) (S0 : Bs) (ok : S0.Ok n m 0) (W : World) (hs : Sl W 5 A N (cat Ev.enc xs)) (hl : xs.length = N) (hN : N ≤ 500)
    (hnew : ∀ w, Chg [] W w → Calls Try.prog 22 #[.agg #[.int .i64 c0, .int .i64 c1, .int .i64 c2, .int .i64 c3, .int .i64 c4, .int .i64 c5, .int .i64 c6], .slice Ai ki ci] w fun e w' => ∃ q, e = .returned (.tuple #[.pointer (some ⟨q, 0, none⟩), .int .i64 0]) ∧ BusW n m w w' q S0) (vd : Int) (hvd : vd = if (trialB S0 xs).1 = N then 0 else 16) :
    Calls Try.prog 16 #[.agg #[.int .i64 c0, .int .i64 c1, .int .i64 c2, .int .i64 c3, .int .i64 c4, .int .i64 c5, .int .i64 c6], .slice Ai ki ci, .slice A N cN] W fun e w' => ∃ t q r, e = .returned (.tuple #[.pointer (some ⟨t, 0, none⟩), .int .i64 vd]) ∧ TrialAt w' t (some ⟨q, 0, none⟩) (trialB S0 xs).1 r ∧ BusX n m W w' q (trialB S0 xs).2 [t] ∧ W.heap.size ≤ t := by
  obtain ⟨n1, n2⟩ := one_new W (.cells #[.int .i64 c0, .int .i64 c1, .int .i64 c2, .int .i64 c3, .int .i64 c4, .int .i64 c5, .int .i64 c6] 23)
  have N2 := Lib.hid n2
  have HS := Lib.hid hs
  have HL := Lib.hid hl
  have OK := Lib.hid ok
  have HV := Lib.hid hvd
  have HW := Lib.hid hnew
  clear n2 hs hl ok hvd hnew
  go_enter Try.func16, Try.ntmps16
  go_upto_region 1 with fail
  generalize W.alloc (.cells #[.int .i64 c0, .int .i64 c1, .int .i64 c2, .int .i64 c3, .int .i64 c4, .int .i64 c5, .int .i64 c6] 23) = w1 at *
  generalize W.heap.size = p at *
  go_upto_region 2 with (go_at_call 22; refine (HW.out w1 N2.out).mono ?_; rintro e w2 ⟨q, rfl, h0⟩; have H0 := Lib.hid (h0.weak N2.out); clear h0)
  clear n1 N2 HW
  obtain ⟨m1, m2⟩ := one_new w2 (.cells (trc (some ⟨q, 0, none⟩) 0 0) 69)
  have M2 := Lib.hid m2
  have hp : W.heap.size ≤ w2.heap.size := H0.out.all.size
  have HP := Lib.hid hp
  have H1 := Lib.hid ((H0.out.x).add (ey := [w2.heap.size]) m2 (by simp) (fun z hz => .inr (by simp only [List.mem_singleton] at hz; subst hz; exact ⟨Nat.le_refl _, lt_heap m1⟩)))
  clear m2 hp H0
  unfold trc at *
  go_upto_region 3 with fail
  generalize w2.alloc (.cells #[.pointer (some ⟨q, 0, none⟩), .int .i64 0, .int .i64 0] 69) = w3 at *
  generalize w2.heap.size = t at *
  have T1 : TrialAt w3 t (some ⟨q, 0, none⟩) 0 0 := m1
  have HT := Lib.hid T1
  clear m1 T1
  go_upto_region 5 with fail
  go_wp2_with fail
  go_loopw [28] (fun i wr => ∃ (j : Nat) (T : Bs), j ≤ N ∧ i = .int .i64 j ∧ TrialAt wr t (some ⟨q, 0, none⟩) j 0 ∧ BusX n m W wr q T [t] ∧ T.Ok n m j ∧ trialB S0 xs = (j + (trialB T (xs.drop j)).1, (trialB T (xs.drop j)).2)) (fun i _ => N - (intOf i).toNat)
  case atStart => exact ⟨0, S0, Nat.zero_le _, rfl, HT.out, H1.out, OK.out, by rw [List.drop_zero, Nat.zero_add]⟩
  case round =>
    clear H1 HT
    obtain ⟨j, T, hj, rfl, h1, h2, h3, h4⟩ := hrel
    have HT := Lib.hid h1
    have HX := Lib.hid h2
    have HO := Lib.hid h3
    have HR := Lib.hid h4
    clear h1 h2 h3 h4
    by_cases hlt : j < N
    · obtain ⟨x, hx⟩ : ∃ x, xs[j]? = some x := ⟨xs[j]'(by rw [HL.out]; exact hlt), List.getElem?_eq_getElem _⟩
      have hdr : xs.drop j = x :: xs.drop (j + 1) := by
        obtain ⟨h2, rfl⟩ := List.getElem?_eq_some_iff.1 hx
        exact List.drop_eq_getElem_cons h2
      have hr := HR.out
      rw [hdr] at hr
      have HR2 := Lib.hid hr
      obtain ⟨b, o, rfl⟩ := HS.out.addr (by omega)
      obtain ⟨cs, ty, f, hb, _, hpa⟩ := (HS.out.chg HX.out.all (by simp)).elem (by omega) hlt (cat_part Ev.len hx)
      obtain ⟨r1, r2⟩ := hpa 0 5 (by omega)
      rw [show ((Ev.enc x).drop 0 |>.take 5).toArray = evc x from rfl, Nat.add_zero] at r2
      rw [Nat.add_zero] at r1
      have g1 : (j : Int) < (N : Int) := by omega
      have g0 : (0 : Int) ≤ (j : Int) := by omega
      have g2 : (N : Int) ≤ 500 := by omega
      have HJ := Lib.hid hlt
      have hxa := (HX.out).add (ey := [t]) ((Chg.refl [] wr).alloc (.cells (evc x) 41)) (by simp) (fun z hz => .inl hz)
      have hta : TrialAt (wr.alloc (.cells (evc x) 41)) t (some ⟨q, 0, none⟩) j 0 := ((Chg.refl [] wr).alloc (.cells (evc x) 41)).keep HT.out (by simp)
      have HXA := Lib.hid hxa
      have HTA := Lib.hid hta
      have n1 : (wr.alloc (.cells (evc x) 41)).heap[wr.heap.size]? = some (.cells (evc x) 41 (0, 0)) := (MapKept.heap_alloc wr _).1
      clear hx hdr hr hpa HR HT HX hlt hj hxa hta
      go_upto_region 8 with fail
      clear hb r1 r2
      generalize wr.alloc (.cells (evc x) 41) = w4 at *
      generalize wr.heap.size = p4 at *
      cases hd : doB T x with
      | none =>
        have HD := Lib.hid hd
        clear hd
        go_upto_region 10 with (go_at_call 23; refine (tdo_no HXA.out HP.out HTA.out HO.out (by have := HJ.out; omega) ⟨by omega, by have := HJ.out; omega⟩ ⟨by omega, by omega⟩ HD.out).mono ?_; rintro e w5 ⟨rfl, h5, h6⟩; have H5 := Lib.hid h5; have H6 := Lib.hid h6; clear h5 h6)
        have hv16 : vd = 16 := by
          rw [HV.out, HR2.out, trialB_stop HD.out, if_neg]
          have := HJ.out
          simp; omega
        have HV2 := Lib.hid hv16
        clear hv16
        go_wp2_with (go_at_call 24; refine (verdict_any _ t _ _ _ H6.out 16 (by simp)).mono ?_; rintro e w6 ⟨rfl, rfl⟩)
        go_ret2
        refine ⟨t, q, 1, ?_, ?_, ?_, HP.out⟩
        · rw [HV2.out]; rfl
        · rw [HR2.out, trialB_stop HD.out]
          exact H6.out
        · have := H5.out
          rw [HR2.out, trialB_stop HD.out]
          exact this
      | some T' =>
        have HD := Lib.hid hd
        clear hd
        go_wp2_with (go_at_call 23; refine (tdo_yes HXA.out HP.out HTA.out HO.out (by have := HJ.out; omega) ⟨by omega, by have := HJ.out; omega⟩ ⟨by omega, by omega⟩ HD.out).mono ?_; rintro e w5 ⟨rfl, h5, h6⟩; have H5 := Lib.hid h5; have H6 := Lib.hid h6; clear h5 h6)
        go_roundw
        case measure =>
          show N - ((j : Int) + 1).toNat < N - ((j : Int)).toNat
          have := HJ.out
          omega
        case rel =>
          have hok := do_ok HO.out x
          rw [HD.out] at hok
          refine ⟨j + 1, T', HJ.out, by go_num, H6.out, H5.out, hok, ?_⟩
          rw [HR2.out, trialB_go HD.out]
          refine Prod.ext ?_ rfl
          simp only
          omega
    · obtain rfl : j = N := by omega
      have g1 : ¬ (j : Int) < (j : Int) := by omega
      have hdr : xs.drop j = [] := List.drop_of_length_le (by rw [HL.out]; exact Nat.le_refl _)
      have hr := HR.out
      rw [hdr] at hr
      have hv0 : vd = 0 := by rw [HV.out, hr, if_pos]; rfl
      have HV2 := Lib.hid hv0
      have HR2 := Lib.hid hr
      clear hv0 hr hdr HR hlt hj
      go_wp2_with (go_at_call 24; refine (verdict_any _ t _ _ _ HT.out 0 (by simp)).mono ?_; rintro e w6 ⟨rfl, rfl⟩)
      go_ret2
      refine ⟨t, q, 0, ?_, ?_, ?_, HP.out⟩
      · rw [HV2.out]; rfl
      · have := HT.out
        rw [HR2.out]
        exact this
      · have := HX.out
        rw [HR2.out]
        exact this
theorem trialOf_bad (c0 c1 c2 c3 c4 c5 c6 : Int) (Ai : Option Addr) (ki ci : Nat) (A : Option Addr) (N cN : Nat) (W : World)
    (hnew : ∀ w, Calls Try.prog 22 #[.agg #[.int .i64 c0, .int .i64 c1, .int .i64 c2, .int .i64 c3, .int .i64 c4, .int .i64 c5, .int .i64 c6], .slice Ai ki ci] w fun e w' => e = .returned (.tuple #[.pointer none, .int .i64 1]) ∧ Chg [] w w') :
    Calls Try.prog 16 #[.agg #[.int .i64 c0, .int .i64 c1, .int .i64 c2, .int .i64 c3, .int .i64 c4, .int .i64 c5, .int .i64 c6], .slice Ai ki ci, .slice A N cN] W fun e w' => ∃ t, e = .returned (.tuple #[.pointer (some ⟨t, 0, none⟩), .int .i64 1]) ∧ TrialAt w' t none 0 0 ∧ Chg [] W w' := by
  obtain ⟨n1, n2⟩ := one_new W (.cells #[.int .i64 c0, .int .i64 c1, .int .i64 c2, .int .i64 c3, .int .i64 c4, .int .i64 c5, .int .i64 c6] 23)
  have N2 := Lib.hid n2
  have HW := Lib.hid hnew
  clear n2 hnew
  go_enter Try.func16, Try.ntmps16
  go_upto_region 1 with fail
  generalize W.alloc (.cells #[.int .i64 c0, .int .i64 c1, .int .i64 c2, .int .i64 c3, .int .i64 c4, .int .i64 c5, .int .i64 c6] 23) = w1 at *
  generalize W.heap.size = p at *
  go_upto_region 2 with (go_at_call 22; refine (HW.out w1).mono ?_; rintro e w2 ⟨rfl, c2⟩; have C2 := Lib.hid c2; clear c2)
  clear n1 HW
  obtain ⟨m1, m2⟩ := one_new w2 (.cells (trc none 0 0) 69)
  have M2 := Lib.hid m2
  clear m2
  unfold trc at *
  go_upto_region 3 with fail
  generalize w2.alloc (.cells #[.pointer none, .int .i64 0, .int .i64 0] 69) = w3 at *
  generalize w2.heap.size = t at *
  go_wp2_with fail
  go_ret2
  exact ⟨t, rfl, m1, (N2.out.trans C2.out).trans M2.out⟩
end Go.Proofs.Ytnocekhgabgffaa
