/- Texts of the walk, one behind the other: Bwx Orb Orc Orq Rbn Rbo Rbq Rbs. No condition. -/
import Derived.Test.YtnocekhgabgffaaOCaf
import Derived.Test.YtnocekhgabgffaaOCai
section
namespace Go.Proofs.Ytnocekhgabgffaa
open Go.RowKit
set_option linter.unusedVariables false
set_option maxHeartbeats 1000000

set_option maxRecDepth 100000
attribute [local go_sem ↓] append_appS copy_copS clear_clrS make_mkS slice_slS lookup_lookS mput_mputS del_mdelS cell_row frozen_row heap_drew heap_drewN heap_alloc heap_past heap_setCell heap_putRow heap_setB loadEv storeEv loadBe storeBe loadSp storeSp loadNw storeNw loadLine storeLine evc_kd evc_co evc_li evc_wo evc_va bec_fl bec_li bec_wo bec_va nwC_0 nwC_1 spC_0 spC_1
attribute [local go_sem] rowCell_some rowFrozen_some rowHas_some rowIn_some rowPart_full rowPart_lit rowPut_full rowPut_lit rowSet_some size_putRow size_setB run_loadS run_storeS run_appS run_copS run_clrS run_mkS run_slS run_lookS run_mputS run_mdelS loadW_at storeW_at fit_all fit_le one_int one_bool one_pointer one_slice allOne_list putRow_new ne_size1 ne_size2 ne_size3 ne_size4 wideEv wideBe wideSp wideNw wideLine evc_size evc_one evc_ne evc_lit evc_z fold_evc bec_size bec_one bec_lit bec_ne bec_at bec_in spC_size spC_one nwC_size nwC_one nwC_ne nwC_set0 nwC_set1 nwC_lit bec_set0 bec_set1 bec_set2 bec_set3 spC_set0 spC_set1 spC_lit fold_spC spC_ne fold_nwC fold_bec fold_at vs_size vs_one ic_size ic_get
attribute [local simp ↓] heap_drew heap_drewN heap_alloc heap_past heap_setCell heap_putRow heap_setB
attribute [local simp] rowCell_some rowFrozen_some rowHas_some rowIn_some rowPart_full rowPart_lit rowPut_full rowPut_lit rowSet_some size_putRow size_setB fit_all putRow_new ne_size1 ne_size2 ne_size3 ne_size4 evc_size bec_size spC_size nwC_size vs_size fit_le
/-- A bus that is new to the world W, and apart from some blocks. -/
def BusX (n m : Nat) (W w : World) (q : Nat) (S : Bs) (ex : List Nat) : Prop := ∃ F, BusM n m w q F S ∧ (∀ z ∈ F, W.heap.size ≤ z) ∧ Chg [] W w ∧ ∀ z ∈ ex, z ∉ F ∧ z < w.heap.size
section
variable {n m : Nat} {W w w' : World} {q : Nat} {S : Bs} {ex : List Nat}
theorem BusX.toW (h : BusX n m W w q S ex) : BusW n m W w q S := by
  obtain ⟨F, h1, h2, h3, _⟩ := h
  exact ⟨F, h1, h2, h3⟩
theorem BusX.all (h : BusX n m W w q S ex) : Chg [] W w := h.toW.all
theorem BusX.less {ey : List Nat} (h : BusX n m W w q S ex) (he : ∀ z ∈ ey, z ∈ ex) : BusX n m W w q S ey := by
  obtain ⟨F, h1, h2, h3, h4⟩ := h
  exact ⟨F, h1, h2, h3, fun z hz => h4 z (he z hz)⟩
theorem BusW.x (h : BusW n m W w q S) : BusX n m W w q S [] := by
  obtain ⟨F, h1, h2, h3⟩ := h
  exact ⟨F, h1, h2, h3, by simp⟩
theorem BusX.chg {l : List Nat} (h : BusX n m W w q S ex) (hc : Chg l w w') (hl : ∀ z ∈ l, z ∈ ex ∧ W.heap.size ≤ z) : BusX n m W w' q S ex := by
  obtain ⟨F, h1, h2, h3, h4⟩ := h
  exact ⟨F, h1.keep hc (fun z hz hl' => (h4 z (hl z hl').1).1 hz), h2, h3.trans' hc (fun z hz => .inr (hl z hz).2), fun z hz => ⟨(h4 z hz).1, Nat.lt_of_lt_of_le (h4 z hz).2 hc.size⟩⟩
/-- More blocks that are apart: new ones. -/
theorem BusX.add {l ey : List Nat} (h : BusX n m W w q S ex) (hc : Chg l w w') (hl : ∀ z ∈ l, z ∈ ex ∧ W.heap.size ≤ z) (he : ∀ z ∈ ey, z ∈ ex ∨ w.heap.size ≤ z ∧ z < w'.heap.size) : BusX n m W w' q S ey := by
  obtain ⟨F, h1, h2, h3, h4⟩ := h.chg hc hl
  obtain ⟨F0, g1, g2, g3, g4⟩ := h
  refine ⟨F0, g1.keep hc (fun z hz hl' => (g4 z (hl z hl').1).1 hz), g2, h3, fun z hz => ?_⟩
  rcases he z hz with h | ⟨h, h'⟩
  · exact ⟨(g4 z h).1, Nat.lt_of_lt_of_le (g4 z h).2 hc.size⟩
  · exact ⟨fun hF => by have := g1.old z hF; omega, h'⟩
theorem do_x (h : BusX n m W w q S ex) {N : Nat} (ok : S.Ok n m N) (hN : N ≤ 1000000) (e : Ev) : Calls Try.prog 35 #[.pointer (some ⟨q, 0, none⟩), .agg (evc e)] w fun r w' => r = .returned (.bool (doB S e).isSome) ∧ BusX n m W w' q ((doB S e).getD S) ex ∧ ∀ z ∈ ex, w'.heap[z]? = w.heap[z]? := by
  obtain ⟨F, h1, h2, h3, h4⟩ := h
  refine (do_ev h1 ok hN e).mono ?_
  rintro r w' ⟨rfl, F', g1, g2, g3⟩
  refine ⟨rfl, ⟨F', g1, fun z hz => ?_, h3.trans' g2 (fun z hz => .inr (h2 z hz)), fun z hz => ⟨fun hF => ?_, Nat.lt_of_lt_of_le (h4 z hz).2 g2.size⟩⟩, fun z hz => g2.block z (h4 z hz).2 (h4 z hz).1⟩
  · rcases g3 z hz with h | h
    · exact h2 z h
    · exact Nat.le_trans h3.size h
  · rcases g3 z hF with h | h
    · exact (h4 z hz).1 h
    · have := (h4 z hz).2; omega
end
end Go.Proofs.Ytnocekhgabgffaa
end
section
namespace Go.Proofs.Ytnocekhgabgffaa
open Go.RowKit
set_option linter.unusedVariables false
set_option maxHeartbeats 1000000

set_option maxRecDepth 100000
attribute [local go_sem ↓] append_appS copy_copS clear_clrS make_mkS slice_slS lookup_lookS mput_mputS del_mdelS cell_row frozen_row heap_drew heap_drewN heap_alloc heap_past heap_setCell heap_putRow heap_setB loadEv storeEv loadBe storeBe loadSp storeSp loadNw storeNw loadLine storeLine evc_kd evc_co evc_li evc_wo evc_va bec_fl bec_li bec_wo bec_va nwC_0 nwC_1 spC_0 spC_1
attribute [local go_sem] rowCell_some rowFrozen_some rowHas_some rowIn_some rowPart_full rowPart_lit rowPut_full rowPut_lit rowSet_some size_putRow size_setB run_loadS run_storeS run_appS run_copS run_clrS run_mkS run_slS run_lookS run_mputS run_mdelS loadW_at storeW_at fit_all fit_le one_int one_bool one_pointer one_slice allOne_list putRow_new ne_size1 ne_size2 ne_size3 ne_size4 wideEv wideBe wideSp wideNw wideLine evc_size evc_one evc_ne evc_lit evc_z fold_evc bec_size bec_one bec_lit bec_ne bec_at bec_in spC_size spC_one nwC_size nwC_one nwC_ne nwC_set0 nwC_set1 nwC_lit bec_set0 bec_set1 bec_set2 bec_set3 spC_set0 spC_set1 spC_lit fold_spC spC_ne fold_nwC fold_bec fold_at vs_size vs_one ic_size ic_get
attribute [local simp ↓] heap_drew heap_drewN heap_alloc heap_past heap_setCell heap_putRow heap_setB
attribute [local simp] rowCell_some rowFrozen_some rowHas_some rowIn_some rowPart_full rowPart_lit rowPut_full rowPut_lit rowSet_some size_putRow size_setB fit_all putRow_new ne_size1 ne_size2 ne_size3 ne_size4 evc_size bec_size spC_size nwC_size vs_size fit_le
theorem tdo_no {n m N : Nat} {W w : World} {q t : Nat} {S : Bs} {a r : Int} (h : BusX n m W w q S [t]) (ht : W.heap.size ≤ t) (hT : TrialAt w t (some ⟨q, 0, none⟩) a r) (ok : S.Ok n m N) (hN : N ≤ 1000) (ha : 0 ≤ a ∧ a ≤ 1000) (hr : 0 ≤ r ∧ r ≤ 1000) {e : Ev} (hd : doB S e = none) :
    Calls Try.prog 23 #[.pointer (some ⟨t, 0, none⟩), .agg (evc e)] w fun x w' => x = .returned (.bool false) ∧ BusX n m W w' q S [t] ∧ TrialAt w' t (some ⟨q, 0, none⟩) a (r + 1) := by
  obtain ⟨n1, n2⟩ := one_new w (.cells (evc e) 41)
  have H0 := Lib.hid (h.chg n2 (by simp))
  have T0 : (w.alloc (.cells (evc e) 41)).heap[t]? = some (.cells (trc (some ⟨q, 0, none⟩) a r) 69 (0, 0)) := n2.keep hT (by simp)
  unfold trc at T0
  have OK := Lib.hid ok
  have HA := Lib.hid ha
  have HR := Lib.hid hr
  have HT := Lib.hid ht
  have HD := Lib.hid hd
  clear h ht hT ok n2 ha hr hd
  go_enter Try.func23, Try.ntmps23
  go_upto_region 1 with fail
  generalize w.alloc (.cells (evc e) 41) = w1 at *
  generalize w.heap.size = p at *
  have H0d := Lib.hid (H0.out.chg (Chg.refl [] w1).drew (by simp))
  have T0d : w1.drew.heap[t]? = some (.cells #[.pointer (some ⟨q, 0, none⟩), .int .i64 a, .int .i64 r] 69 (0, 0)) := T0
  go_region_with (go_at_call 35; refine (do_x H0d.out OK.out (by omega) e).mono ?_; rintro x w2 ⟨rfl, h2, h3⟩; rw [HD.out] at h2 ⊢; have H2 := Lib.hid h2; have T2 := (h3 t (by simp)).trans T0d; clear h2 h3)
  all_goals
    go_wp2_with (go_at_call 36; refine (oadd_any t 2 r _ _ _ T2 rfl HR.out.1 (by have := HR.out; omega)).mono ?_; rintro x w3 ⟨rfl, rfl⟩)
    go_ret
    refine ⟨rfl, H2.out.chg ((Chg.refl [t] _).setCell _ _ _ (.inl (by simp))) (by simp; exact HT.out), ?_⟩
    unfold TrialAt
    rw [heap_setCell, if_pos rfl, T2, rowSet_some]; rfl
theorem tdo_yes {n m N : Nat} {W w : World} {q t : Nat} {S T : Bs} {a r : Int} (h : BusX n m W w q S [t]) (ht : W.heap.size ≤ t) (hT : TrialAt w t (some ⟨q, 0, none⟩) a r) (ok : S.Ok n m N) (hN : N ≤ 1000) (ha : 0 ≤ a ∧ a ≤ 1000) (hr : 0 ≤ r ∧ r ≤ 1000) {e : Ev} (hd : doB S e = some T) :
    Calls Try.prog 23 #[.pointer (some ⟨t, 0, none⟩), .agg (evc e)] w fun x w' => x = .returned (.bool true) ∧ BusX n m W w' q T [t] ∧ TrialAt w' t (some ⟨q, 0, none⟩) (a + 1) r := by
  obtain ⟨n1, n2⟩ := one_new w (.cells (evc e) 41)
  have H0 := Lib.hid (h.chg n2 (by simp))
  have T0 : (w.alloc (.cells (evc e) 41)).heap[t]? = some (.cells (trc (some ⟨q, 0, none⟩) a r) 69 (0, 0)) := n2.keep hT (by simp)
  unfold trc at T0
  have OK := Lib.hid ok
  have HA := Lib.hid ha
  have HR := Lib.hid hr
  have HT := Lib.hid ht
  have HD := Lib.hid hd
  clear h ht hT ok n2 ha hr hd
  go_enter Try.func23, Try.ntmps23
  go_upto_region 1 with fail
  generalize w.alloc (.cells (evc e) 41) = w1 at *
  generalize w.heap.size = p at *
  have H0d := Lib.hid (H0.out.chg (Chg.refl [] w1).drew (by simp))
  have T0d : w1.drew.heap[t]? = some (.cells #[.pointer (some ⟨q, 0, none⟩), .int .i64 a, .int .i64 r] 69 (0, 0)) := T0
  go_region_with (go_at_call 35; refine (do_x H0d.out OK.out (by omega) e).mono ?_; rintro x w2 ⟨rfl, h2, h3⟩; rw [HD.out] at h2 ⊢; have H2 := Lib.hid h2; have T2 := (h3 t (by simp)).trans T0d; clear h2 h3)
  all_goals
    go_wp2_with (go_at_call 36; refine (oadd_any t 1 a _ _ _ T2 rfl HA.out.1 (by have := HA.out; omega)).mono ?_; rintro x w3 ⟨rfl, rfl⟩)
    go_ret
    refine ⟨rfl, H2.out.chg ((Chg.refl [t] _).setCell _ _ _ (.inl (by simp))) (by simp; exact HT.out), ?_⟩
    unfold TrialAt
    rw [heap_setCell, if_pos rfl, T2, rowSet_some]; rfl
attribute [local go_sem ↓] loadCf storeCf
attribute [local go_sem] wideCf
theorem trialOf_ok {n m : Nat} (c0 c1 c2 c3 c4 c5 c6 : Int) (Ai : Option Addr) (ki ci : Nat) {A : Option Addr} {N cN : Nat} (xs : List Ev) (S0 : Bs) (ok : S0.Ok n m 0) (W : World) (hs : Sl W 5 A N (cat Ev.enc xs)) (hl : xs.length = N) (hN : N ≤ 500)
    (hnew : ∀ w, Chg [] W w → Calls Try.prog 22 #[.agg #[.int .i64 c0, .int .i64 c1, .int .i64 c2, .int .i64 c3, .int .i64 c4, .int .i64 c5, .int .i64 c6], .slice Ai ki ci] w fun e w' => ∃ q, e = .returned (.tuple #[.pointer (some ⟨q, 0, none⟩), .int .i64 0]) ∧ BusW n m w w' q S0) (vd : Int) (hvd : vd = if (trialB S0 xs).1 = N then 0 else 16) :
    Calls Try.prog 16 #[.agg #[.int .i64 c0, .int .i64 c1, .int .i64 c2, .int .i64 c3, .int .i64 c4, .int .i64 c5, .int .i64 c6], .slice Ai ki ci, .slice A N cN] W fun e w' => ∃ t q r, e = .returned (.tuple #[.pointer (some ⟨t, 0, none⟩), .int .i64 vd]) ∧ TrialAt w' t (some ⟨q, 0, none⟩) (trialB S0 xs).1 r ∧ BusX n m W w' q (trialB S0 xs).2 [t] ∧ W.heap.size ≤ t := by
  obtain ⟨n1, n2⟩ := one_new W (.cells #[.int .i64 c0, .int .i64 c1, .int .i64 c2, .int .i64 c3, .int .i64 c4, .int .i64 c5, .int .i64 c6] 23)
  have N2 := Lib.hid n2
  have HS := Lib.hid hs
  have HL := Lib.hid hl
  have OK := Lib.hid ok
  have HV := Lib.hid hvd
  have HW := Lib.hid hnew
  clear n2 hs hl ok hvd hnew
  go_enter Try.func16, Try.ntmps16
  go_upto_region 1 with fail
  generalize W.alloc (.cells #[.int .i64 c0, .int .i64 c1, .int .i64 c2, .int .i64 c3, .int .i64 c4, .int .i64 c5, .int .i64 c6] 23) = w1 at *
  generalize W.heap.size = p at *
  go_upto_region 2 with (go_at_call 22; refine (HW.out w1 N2.out).mono ?_; rintro e w2 ⟨q, rfl, h0⟩; have H0 := Lib.hid (h0.weak N2.out); clear h0)
  clear n1 N2 HW
  obtain ⟨m1, m2⟩ := one_new w2 (.cells (trc (some ⟨q, 0, none⟩) 0 0) 69)
  have M2 := Lib.hid m2
  have hp : W.heap.size ≤ w2.heap.size := H0.out.all.size
  have HP := Lib.hid hp
  have H1 := Lib.hid ((H0.out.x).add (ey := [w2.heap.size]) m2 (by simp) (fun z hz => .inr (by simp only [List.mem_singleton] at hz; subst hz; exact ⟨Nat.le_refl _, lt_heap m1⟩)))
  clear m2 hp H0
  unfold trc at *
  go_upto_region 3 with fail
  generalize w2.alloc (.cells #[.pointer (some ⟨q, 0, none⟩), .int .i64 0, .int .i64 0] 69) = w3 at *
  generalize w2.heap.size = t at *
  have T1 : TrialAt w3 t (some ⟨q, 0, none⟩) 0 0 := m1
  have HT := Lib.hid T1
  clear m1 T1
  go_upto_region 5 with fail
  go_wp2_with fail
  go_loopw [28] (fun i wr => ∃ (j : Nat) (T : Bs), j ≤ N ∧ i = .int .i64 j ∧ TrialAt wr t (some ⟨q, 0, none⟩) j 0 ∧ BusX n m W wr q T [t] ∧ T.Ok n m j ∧ trialB S0 xs = (j + (trialB T (xs.drop j)).1, (trialB T (xs.drop j)).2)) (fun i _ => N - (intOf i).toNat)
  case atStart => exact ⟨0, S0, Nat.zero_le _, rfl, HT.out, H1.out, OK.out, by rw [List.drop_zero, Nat.zero_add]⟩
  case round =>
    clear H1 HT
    obtain ⟨j, T, hj, rfl, h1, h2, h3, h4⟩ := hrel
    have HT := Lib.hid h1
    have HX := Lib.hid h2
    have HO := Lib.hid h3
    have HR := Lib.hid h4
    clear h1 h2 h3 h4
    by_cases hlt : j < N
    · obtain ⟨x, hx⟩ : ∃ x, xs[j]? = some x := ⟨xs[j]'(by rw [HL.out]; exact hlt), List.getElem?_eq_getElem _⟩
      have hdr : xs.drop j = x :: xs.drop (j + 1) := by
        obtain ⟨h2, rfl⟩ := List.getElem?_eq_some_iff.1 hx
        exact List.drop_eq_getElem_cons h2
      have hr := HR.out
      rw [hdr] at hr
      have HR2 := Lib.hid hr
      obtain ⟨b, o, rfl⟩ := HS.out.addr (by omega)
      obtain ⟨cs, ty, f, hb, _, hpa⟩ := (HS.out.chg HX.out.all (by simp)).elem (by omega) hlt (cat_part Ev.len hx)
      obtain ⟨r1, r2⟩ := hpa 0 5 (by omega)
      rw [show ((Ev.enc x).drop 0 |>.take 5).toArray = evc x from rfl, Nat.add_zero] at r2
      rw [Nat.add_zero] at r1
      have g1 : (j : Int) < (N : Int) := by omega
      have g0 : (0 : Int) ≤ (j : Int) := by omega
      have g2 : (N : Int) ≤ 500 := by omega
      have HJ := Lib.hid hlt
      have hxa := (HX.out).add (ey := [t]) ((Chg.refl [] wr).alloc (.cells (evc x) 41)) (by simp) (fun z hz => .inl hz)
      have hta : TrialAt (wr.alloc (.cells (evc x) 41)) t (some ⟨q, 0, none⟩) j 0 := ((Chg.refl [] wr).alloc (.cells (evc x) 41)).keep HT.out (by simp)
      have HXA := Lib.hid hxa
      have HTA := Lib.hid hta
      have n1 : (wr.alloc (.cells (evc x) 41)).heap[wr.heap.size]? = some (.cells (evc x) 41 (0, 0)) := (MapKept.heap_alloc wr _).1
      clear hx hdr hr hpa HR HT HX hlt hj hxa hta
      go_upto_region 8 with fail
      clear hb r1 r2
      generalize wr.alloc (.cells (evc x) 41) = w4 at *
      generalize wr.heap.size = p4 at *
      cases hd : doB T x with
      | none =>
        have HD := Lib.hid hd
        clear hd
        go_upto_region 10 with (go_at_call 23; refine (tdo_no HXA.out HP.out HTA.out HO.out (by have := HJ.out; omega) ⟨by omega, by have := HJ.out; omega⟩ ⟨by omega, by omega⟩ HD.out).mono ?_; rintro e w5 ⟨rfl, h5, h6⟩; have H5 := Lib.hid h5; have H6 := Lib.hid h6; clear h5 h6)
        have hv16 : vd = 16 := by
          rw [HV.out, HR2.out, trialB_stop HD.out, if_neg]
          have := HJ.out
          simp; omega
        have HV2 := Lib.hid hv16
        clear hv16
        go_wp2_with (go_at_call 24; refine (verdict_any _ t _ _ _ H6.out 16 (by simp)).mono ?_; rintro e w6 ⟨rfl, rfl⟩)
        go_ret2
        refine ⟨t, q, 1, ?_, ?_, ?_, HP.out⟩
        · rw [HV2.out]; rfl
        · rw [HR2.out, trialB_stop HD.out]
          exact H6.out
        · have := H5.out
          rw [HR2.out, trialB_stop HD.out]
          exact this
      | some T' =>
        have HD := Lib.hid hd
        clear hd
        go_wp2_with (go_at_call 23; refine (tdo_yes HXA.out HP.out HTA.out HO.out (by have := HJ.out; omega) ⟨by omega, by have := HJ.out; omega⟩ ⟨by omega, by omega⟩ HD.out).mono ?_; rintro e w5 ⟨rfl, h5, h6⟩; have H5 := Lib.hid h5; have H6 := Lib.hid h6; clear h5 h6)
        go_roundw
        case measure =>
          show N - ((j : Int) + 1).toNat < N - ((j : Int)).toNat
          have := HJ.out
          omega
        case rel =>
          have hok := do_ok HO.out x
          rw [HD.out] at hok
          refine ⟨j + 1, T', HJ.out, by go_num, H6.out, H5.out, hok, ?_⟩
          rw [HR2.out, trialB_go HD.out]
          refine Prod.ext ?_ rfl
          simp only
          omega
    · obtain rfl : j = N := by omega
      have g1 : ¬ (j : Int) < (j : Int) := by omega
      have hdr : xs.drop j = [] := List.drop_of_length_le (by rw [HL.out]; exact Nat.le_refl _)
      have hr := HR.out
      rw [hdr] at hr
      have hv0 : vd = 0 := by rw [HV.out, hr, if_pos]; rfl
      have HV2 := Lib.hid hv0
      have HR2 := Lib.hid hr
      clear hv0 hr hdr HR hlt hj
      go_wp2_with (go_at_call 24; refine (verdict_any _ t _ _ _ HT.out 0 (by simp)).mono ?_; rintro e w6 ⟨rfl, rfl⟩)
      go_ret2
      refine ⟨t, q, 0, ?_, ?_, ?_, HP.out⟩
      · rw [HV2.out]; rfl
      · have := HT.out
        rw [HR2.out]
        exact this
      · have := HX.out
        rw [HR2.out]
        exact this
theorem trialOf_bad (c0 c1 c2 c3 c4 c5 c6 : Int) (Ai : Option Addr) (ki ci : Nat) (A : Option Addr) (N cN : Nat) (W : World)
    (hnew : ∀ w, Calls Try.prog 22 #[.agg #[.int .i64 c0, .int .i64 c1, .int .i64 c2, .int .i64 c3, .int .i64 c4, .int .i64 c5, .int .i64 c6], .slice Ai ki ci] w fun e w' => e = .returned (.tuple #[.pointer none, .int .i64 1]) ∧ Chg [] w w') :
    Calls Try.prog 16 #[.agg #[.int .i64 c0, .int .i64 c1, .int .i64 c2, .int .i64 c3, .int .i64 c4, .int .i64 c5, .int .i64 c6], .slice Ai ki ci, .slice A N cN] W fun e w' => ∃ t, e = .returned (.tuple #[.pointer (some ⟨t, 0, none⟩), .int .i64 1]) ∧ TrialAt w' t none 0 0 ∧ Chg [] W w' := by
  obtain ⟨n1, n2⟩ := one_new W (.cells #[.int .i64 c0, .int .i64 c1, .int .i64 c2, .int .i64 c3, .int .i64 c4, .int .i64 c5, .int .i64 c6] 23)
  have N2 := Lib.hid n2
  have HW := Lib.hid hnew
  clear n2 hnew
  go_enter Try.func16, Try.ntmps16
  go_upto_region 1 with fail
  generalize W.alloc (.cells #[.int .i64 c0, .int .i64 c1, .int .i64 c2, .int .i64 c3, .int .i64 c4, .int .i64 c5, .int .i64 c6] 23) = w1 at *
  generalize W.heap.size = p at *
  go_upto_region 2 with (go_at_call 22; refine (HW.out w1).mono ?_; rintro e w2 ⟨rfl, c2⟩; have C2 := Lib.hid c2; clear c2)
  clear n1 HW
  obtain ⟨m1, m2⟩ := one_new w2 (.cells (trc none 0 0) 69)
  have M2 := Lib.hid m2
  clear m2
  unfold trc at *
  go_upto_region 3 with fail
  generalize w2.alloc (.cells #[.pointer none, .int .i64 0, .int .i64 0] 69) = w3 at *
  generalize w2.heap.size = t at *
  go_wp2_with fail
  go_ret2
  exact ⟨t, rfl, m1, (N2.out.trans C2.out).trans M2.out⟩
end Go.Proofs.Ytnocekhgabgffaa
end
section
namespace Go.Proofs.Ytnocekhgabgffaa
open Go.RowKit
set_option linter.unusedVariables false
set_option maxHeartbeats 1000000

set_option maxRecDepth 100000
attribute [local go_sem ↓] append_appS copy_copS clear_clrS make_mkS slice_slS lookup_lookS mput_mputS del_mdelS cell_row frozen_row heap_drew heap_drewN heap_alloc heap_past heap_setCell heap_putRow heap_setB loadEv storeEv loadBe storeBe loadSp storeSp loadNw storeNw loadLine storeLine evc_kd evc_co evc_li evc_wo evc_va bec_fl bec_li bec_wo bec_va nwC_0 nwC_1 spC_0 spC_1
attribute [local go_sem] rowCell_some rowFrozen_some rowHas_some rowIn_some rowPart_full rowPart_lit rowPut_full rowPut_lit rowSet_some size_putRow size_setB run_loadS run_storeS run_appS run_copS run_clrS run_mkS run_slS run_lookS run_mputS run_mdelS loadW_at storeW_at fit_all fit_le one_int one_bool one_pointer one_slice allOne_list putRow_new ne_size1 ne_size2 ne_size3 ne_size4 wideEv wideBe wideSp wideNw wideLine evc_size evc_one evc_ne evc_lit evc_z fold_evc bec_size bec_one bec_lit bec_ne bec_at bec_in spC_size spC_one nwC_size nwC_one nwC_ne nwC_set0 nwC_set1 nwC_lit bec_set0 bec_set1 bec_set2 bec_set3 spC_set0 spC_set1 spC_lit fold_spC spC_ne fold_nwC fold_bec fold_at vs_size vs_one ic_size ic_get
attribute [local simp ↓] heap_drew heap_drewN heap_alloc heap_past heap_setCell heap_putRow heap_setB
attribute [local simp] rowCell_some rowFrozen_some rowHas_some rowIn_some rowPart_full rowPart_lit rowPut_full rowPut_lit rowSet_some size_putRow size_setB fit_all putRow_new ne_size1 ne_size2 ne_size3 ne_size4 evc_size bec_size spC_size nwC_size vs_size fit_le
attribute [local go_sem ↓] loadCf storeCf
attribute [local go_sem] wideCf
theorem check_ok {n m : Nat} (c0 c1 c2 c3 c4 c5 c6 : Int) (Ai : Option Addr) (ki ci : Nat) {A : Option Addr} {N cN : Nat} (xs : List Ev) (S0 : Bs) (ok : S0.Ok n m 0) (W : World) (hs : Sl W 5 A N (cat Ev.enc xs)) (hl : xs.length = N) (hN : N ≤ 500)
    (hnew : ∀ w, Chg [] W w → Calls Try.prog 22 #[.agg #[.int .i64 c0, .int .i64 c1, .int .i64 c2, .int .i64 c3, .int .i64 c4, .int .i64 c5, .int .i64 c6], .slice Ai ki ci] w fun e w' => ∃ q, e = .returned (.tuple #[.pointer (some ⟨q, 0, none⟩), .int .i64 0]) ∧ BusW n m w w' q S0) (vd : Int) (hvd : vd = if (trialB S0 xs).1 = N then 0 else 16) (at0 : Int) (hat : at0 = (trialB S0 xs).1) :
    Calls Try.prog 7 #[.agg #[.int .i64 c0, .int .i64 c1, .int .i64 c2, .int .i64 c3, .int .i64 c4, .int .i64 c5, .int .i64 c6], .slice Ai ki ci, .slice A N cN] W fun e w' => e = .returned (.tuple #[.int .i64 at0, .int .i64 vd]) ∧ Chg [] W w' := by
  obtain ⟨n1, n2⟩ := one_new W (.cells #[.int .i64 c0, .int .i64 c1, .int .i64 c2, .int .i64 c3, .int .i64 c4, .int .i64 c5, .int .i64 c6] 23)
  have N2 := Lib.hid n2
  have HS := Lib.hid hs
  have HL := Lib.hid hl
  have OK := Lib.hid ok
  have HW := Lib.hid hnew
  have HV := Lib.hid hvd
  have HT := Lib.hid hat
  clear n2 hs hl ok hnew hvd hat
  go_enter Try.func7, Try.ntmps7
  go_upto_region 1 with fail
  generalize W.alloc (.cells #[.int .i64 c0, .int .i64 c1, .int .i64 c2, .int .i64 c3, .int .i64 c4, .int .i64 c5, .int .i64 c6] 23) = w1 at *
  generalize W.heap.size = p at *
  go_upto_region 2 with (go_at_call 16; refine (trialOf_ok (cN := cN) c0 c1 c2 c3 c4 c5 c6 Ai ki ci xs S0 OK.out w1 (HS.out.chg N2.out (by simp)) HL.out hN (fun w hw => HW.out w (N2.out.trans hw)) vd HV.out).mono ?_; rintro e w2 ⟨t, q, r, rfl, h1, h2, h3⟩; have H1 := Lib.hid h1; have H2 := Lib.hid h2; have C2 := Lib.hid (N2.out.trans h2.all); clear h1 h2 h3)
  have hle := trialB_le xs S0
  rw [HL.out] at hle
  have HA := Lib.hid hle
  clear hle
  go_wp2_with (go_at_call 17; refine (allowed_any _ t _ _ _ H1.out (by omega) (by have := HA.out; omega)).mono ?_; rintro e w3 ⟨rfl, rfl⟩)
  go_ret2
  exact ⟨by rw [HT.out]; rfl, C2.out⟩
theorem check_bad (c0 c1 c2 c3 c4 c5 c6 : Int) (Ai : Option Addr) (ki ci : Nat) (A : Option Addr) (N cN : Nat) (W : World)
    (hnew : ∀ w, Calls Try.prog 22 #[.agg #[.int .i64 c0, .int .i64 c1, .int .i64 c2, .int .i64 c3, .int .i64 c4, .int .i64 c5, .int .i64 c6], .slice Ai ki ci] w fun e w' => e = .returned (.tuple #[.pointer none, .int .i64 1]) ∧ Chg [] w w') :
    Calls Try.prog 7 #[.agg #[.int .i64 c0, .int .i64 c1, .int .i64 c2, .int .i64 c3, .int .i64 c4, .int .i64 c5, .int .i64 c6], .slice Ai ki ci, .slice A N cN] W fun e w' => e = .returned (.tuple #[.int .i64 0, .int .i64 1]) ∧ Chg [] W w' := by
  obtain ⟨n1, n2⟩ := one_new W (.cells #[.int .i64 c0, .int .i64 c1, .int .i64 c2, .int .i64 c3, .int .i64 c4, .int .i64 c5, .int .i64 c6] 23)
  have N2 := Lib.hid n2
  have HW := Lib.hid hnew
  clear n2 hnew
  go_enter Try.func7, Try.ntmps7
  go_upto_region 1 with fail
  generalize W.alloc (.cells #[.int .i64 c0, .int .i64 c1, .int .i64 c2, .int .i64 c3, .int .i64 c4, .int .i64 c5, .int .i64 c6] 23) = w1 at *
  generalize W.heap.size = p at *
  go_upto_region 2 with (go_at_call 16; refine (trialOf_bad c0 c1 c2 c3 c4 c5 c6 Ai ki ci A N cN w1 HW.out).mono ?_; rintro e w2 ⟨t, rfl, h1, h2⟩; have H1 := Lib.hid h1; have C2 := Lib.hid (N2.out.trans h2); clear h1 h2)
  go_wp2_with (go_at_call 17; refine (allowed_any _ t _ _ _ H1.out (by omega) (by omega)).mono ?_; rintro e w3 ⟨rfl, rfl⟩)
  go_ret2
  exact ⟨rfl, C2.out⟩
theorem ends_ok {n m : Nat} (c0 c1 c2 c3 c4 c5 c6 : Int) (Ai : Option Addr) (ki ci : Nat) {A : Option Addr} {N cN : Nat} (xs : List Ev) (S0 : Bs) (ok : S0.Ok n m 0) (W : World) (hs : Sl W 5 A N (cat Ev.enc xs)) (hl : xs.length = N) (hN : N ≤ 500)
    (hnew : ∀ w, Chg [] W w → Calls Try.prog 22 #[.agg #[.int .i64 c0, .int .i64 c1, .int .i64 c2, .int .i64 c3, .int .i64 c4, .int .i64 c5, .int .i64 c6], .slice Ai ki ci] w fun e w' => ∃ q, e = .returned (.tuple #[.pointer (some ⟨q, 0, none⟩), .int .i64 0]) ∧ BusW n m w w' q S0) (hall : (trialB S0 xs).1 = N) :
    Calls Try.prog 9 #[.agg #[.int .i64 c0, .int .i64 c1, .int .i64 c2, .int .i64 c3, .int .i64 c4, .int .i64 c5, .int .i64 c6], .slice Ai ki ci, .slice A N cN] W fun e w' => ∃ g cap r, e = .returned (.tuple #[.slice (some ⟨g, 0, none⟩) n cap, .int .i64 0]) ∧ w'.heap[g]? = some (.cells (bk (trialB S0 xs).2.ls r) 44 (0, 0)) ∧ W.heap.size ≤ g ∧ n ≤ cap ∧ Chg [] W w' := by
  obtain ⟨n1, n2⟩ := one_new W (.cells #[.int .i64 c0, .int .i64 c1, .int .i64 c2, .int .i64 c3, .int .i64 c4, .int .i64 c5, .int .i64 c6] 23)
  have N2 := Lib.hid n2
  have HS := Lib.hid hs
  have HL := Lib.hid hl
  have OK := Lib.hid ok
  have HW := Lib.hid hnew
  have HA := Lib.hid hall
  clear n2 hs hl ok hnew hall
  go_enter Try.func9, Try.ntmps9
  go_upto_region 1 with fail
  generalize W.alloc (.cells #[.int .i64 c0, .int .i64 c1, .int .i64 c2, .int .i64 c3, .int .i64 c4, .int .i64 c5, .int .i64 c6] 23) = w1 at *
  generalize W.heap.size = p at *
  go_upto_region 2 with (go_at_call 16; refine (trialOf_ok (cN := cN) c0 c1 c2 c3 c4 c5 c6 Ai ki ci xs S0 OK.out w1 (HS.out.chg N2.out (by simp)) HL.out hN (fun w hw => HW.out w (N2.out.trans hw)) 0 (by rw [if_pos HA.out])).mono ?_; rintro e w2 ⟨t, q, r, rfl, h1, h2, h3⟩; have H1 := Lib.hid h1; have H2 := Lib.hid h2; have C2 := Lib.hid (N2.out.trans h2.all); clear h1 h2 h3)
  have hok := trialB_ok xs OK.out
  have HO := Lib.hid hok
  have ht := H1.out
  unfold TrialAt trc at ht
  clear hok n1
  go_wp2_with (go_at_call 20; refine (by { obtain ⟨F, g1, _⟩ := H2.out; exact blines_ok g1 HO.out } : Calls Try.prog 20 _ _ (LinesOf _ n (trialB S0 xs).2.ls)).mono ?_; rintro e w3 ⟨g, cap, r3, rfl, kh, kg, kl, kd⟩)
  go_ret2
  exact ⟨g, cap, r3, rfl, kh, Nat.le_trans C2.out.size kg, kl, C2.out.trans kd⟩
theorem ends_no {n m : Nat} (c0 c1 c2 c3 c4 c5 c6 : Int) (Ai : Option Addr) (ki ci : Nat) {A : Option Addr} {N cN : Nat} (xs : List Ev) (S0 : Bs) (ok : S0.Ok n m 0) (W : World) (hs : Sl W 5 A N (cat Ev.enc xs)) (hl : xs.length = N) (hN : N ≤ 500)
    (hnew : ∀ w, Chg [] W w → Calls Try.prog 22 #[.agg #[.int .i64 c0, .int .i64 c1, .int .i64 c2, .int .i64 c3, .int .i64 c4, .int .i64 c5, .int .i64 c6], .slice Ai ki ci] w fun e w' => ∃ q, e = .returned (.tuple #[.pointer (some ⟨q, 0, none⟩), .int .i64 0]) ∧ BusW n m w w' q S0) (hall : (trialB S0 xs).1 ≠ N) :
    Calls Try.prog 9 #[.agg #[.int .i64 c0, .int .i64 c1, .int .i64 c2, .int .i64 c3, .int .i64 c4, .int .i64 c5, .int .i64 c6], .slice Ai ki ci, .slice A N cN] W fun e w' => e = .returned (.tuple #[.slice none 0 0, .int .i64 16]) ∧ Chg [] W w' := by
  obtain ⟨n1, n2⟩ := one_new W (.cells #[.int .i64 c0, .int .i64 c1, .int .i64 c2, .int .i64 c3, .int .i64 c4, .int .i64 c5, .int .i64 c6] 23)
  have N2 := Lib.hid n2
  have HS := Lib.hid hs
  have HL := Lib.hid hl
  have OK := Lib.hid ok
  have HW := Lib.hid hnew
  have HA := Lib.hid hall
  clear n2 hs hl ok hnew hall
  go_enter Try.func9, Try.ntmps9
  go_upto_region 1 with fail
  generalize W.alloc (.cells #[.int .i64 c0, .int .i64 c1, .int .i64 c2, .int .i64 c3, .int .i64 c4, .int .i64 c5, .int .i64 c6] 23) = w1 at *
  generalize W.heap.size = p at *
  go_upto_region 2 with (go_at_call 16; refine (trialOf_ok (cN := cN) c0 c1 c2 c3 c4 c5 c6 Ai ki ci xs S0 OK.out w1 (HS.out.chg N2.out (by simp)) HL.out hN (fun w hw => HW.out w (N2.out.trans hw)) 16 (by rw [if_neg HA.out])).mono ?_; rintro e w2 ⟨t, q, r, rfl, h1, h2, h3⟩; have H1 := Lib.hid h1; have H2 := Lib.hid h2; have C2 := Lib.hid (N2.out.trans h2.all); clear h1 h2 h3)
  go_wp2_with fail
  go_ret2
  exact ⟨rfl, C2.out⟩
theorem ends_bad (c0 c1 c2 c3 c4 c5 c6 : Int) (Ai : Option Addr) (ki ci : Nat) (A : Option Addr) (N cN : Nat) (W : World)
    (hnew : ∀ w, Calls Try.prog 22 #[.agg #[.int .i64 c0, .int .i64 c1, .int .i64 c2, .int .i64 c3, .int .i64 c4, .int .i64 c5, .int .i64 c6], .slice Ai ki ci] w fun e w' => e = .returned (.tuple #[.pointer none, .int .i64 1]) ∧ Chg [] w w') :
    Calls Try.prog 9 #[.agg #[.int .i64 c0, .int .i64 c1, .int .i64 c2, .int .i64 c3, .int .i64 c4, .int .i64 c5, .int .i64 c6], .slice Ai ki ci, .slice A N cN] W fun e w' => e = .returned (.tuple #[.slice none 0 0, .int .i64 1]) ∧ Chg [] W w' := by
  obtain ⟨n1, n2⟩ := one_new W (.cells #[.int .i64 c0, .int .i64 c1, .int .i64 c2, .int .i64 c3, .int .i64 c4, .int .i64 c5, .int .i64 c6] 23)
  have N2 := Lib.hid n2
  have HW := Lib.hid hnew
  clear n2 hnew
  go_enter Try.func9, Try.ntmps9
  go_upto_region 1 with fail
  generalize W.alloc (.cells #[.int .i64 c0, .int .i64 c1, .int .i64 c2, .int .i64 c3, .int .i64 c4, .int .i64 c5, .int .i64 c6] 23) = w1 at *
  generalize W.heap.size = p at *
  go_upto_region 2 with (go_at_call 16; refine (trialOf_bad c0 c1 c2 c3 c4 c5 c6 Ai ki ci A N cN w1 HW.out).mono ?_; rintro e w2 ⟨t, rfl, h1, h2⟩; have C2 := Lib.hid (N2.out.trans h2); clear h1 h2)
  go_wp2_with fail
  go_ret2
  exact ⟨rfl, C2.out⟩
theorem keeps_ok {n m : Nat} (c0 c1 c2 c3 c4 c5 c6 : Int) (Ai : Option Addr) (ki ci : Nat) {A : Option Addr} {N cN : Nat} (xs : List Ev) (S0 : Bs) (ok : S0.Ok n m 0) (W : World) (hs : Sl W 5 A N (cat Ev.enc xs)) (hl : xs.length = N) (hN : N ≤ 500)
    (hnew : ∀ w, Chg [] W w → Calls Try.prog 22 #[.agg #[.int .i64 c0, .int .i64 c1, .int .i64 c2, .int .i64 c3, .int .i64 c4, .int .i64 c5, .int .i64 c6], .slice Ai ki ci] w fun e w' => ∃ q, e = .returned (.tuple #[.pointer (some ⟨q, 0, none⟩), .int .i64 0]) ∧ BusW n m w w' q S0) (hall : (trialB S0 xs).1 = N) :
    Calls Try.prog 10 #[.agg #[.int .i64 c0, .int .i64 c1, .int .i64 c2, .int .i64 c3, .int .i64 c4, .int .i64 c5, .int .i64 c6], .slice Ai ki ci, .slice A N cN] W fun e w' => ∃ g cap r, e = .returned (.tuple #[.slice (some ⟨g, 0, none⟩) n cap, .int .i64 0]) ∧ w'.heap[g]? = some (.cells (bk (trialB S0 xs).2.ks r) 44 (0, 0)) ∧ W.heap.size ≤ g ∧ n ≤ cap ∧ Chg [] W w' := by
  obtain ⟨n1, n2⟩ := one_new W (.cells #[.int .i64 c0, .int .i64 c1, .int .i64 c2, .int .i64 c3, .int .i64 c4, .int .i64 c5, .int .i64 c6] 23)
  have N2 := Lib.hid n2
  have HS := Lib.hid hs
  have HL := Lib.hid hl
  have OK := Lib.hid ok
  have HW := Lib.hid hnew
  have HA := Lib.hid hall
  clear n2 hs hl ok hnew hall
  go_enter Try.func10, Try.ntmps10
  go_upto_region 1 with fail
  generalize W.alloc (.cells #[.int .i64 c0, .int .i64 c1, .int .i64 c2, .int .i64 c3, .int .i64 c4, .int .i64 c5, .int .i64 c6] 23) = w1 at *
  generalize W.heap.size = p at *
  go_upto_region 2 with (go_at_call 16; refine (trialOf_ok (cN := cN) c0 c1 c2 c3 c4 c5 c6 Ai ki ci xs S0 OK.out w1 (HS.out.chg N2.out (by simp)) HL.out hN (fun w hw => HW.out w (N2.out.trans hw)) 0 (by rw [if_pos HA.out])).mono ?_; rintro e w2 ⟨t, q, r, rfl, h1, h2, h3⟩; have H1 := Lib.hid h1; have H2 := Lib.hid h2; have C2 := Lib.hid (N2.out.trans h2.all); clear h1 h2 h3)
  have hok := trialB_ok xs OK.out
  have HO := Lib.hid hok
  have ht := H1.out
  unfold TrialAt trc at ht
  clear hok n1
  go_wp2_with (go_at_call 21; refine (by { obtain ⟨F, g1, _⟩ := H2.out; exact bkept_ok g1 HO.out } : Calls Try.prog 21 _ _ (LinesOf _ n (trialB S0 xs).2.ks)).mono ?_; rintro e w3 ⟨g, cap, r3, rfl, kh, kg, kl, kd⟩)
  go_ret2
  exact ⟨g, cap, r3, rfl, kh, Nat.le_trans C2.out.size kg, kl, C2.out.trans kd⟩
theorem keeps_no {n m : Nat} (c0 c1 c2 c3 c4 c5 c6 : Int) (Ai : Option Addr) (ki ci : Nat) {A : Option Addr} {N cN : Nat} (xs : List Ev) (S0 : Bs) (ok : S0.Ok n m 0) (W : World) (hs : Sl W 5 A N (cat Ev.enc xs)) (hl : xs.length = N) (hN : N ≤ 500)
    (hnew : ∀ w, Chg [] W w → Calls Try.prog 22 #[.agg #[.int .i64 c0, .int .i64 c1, .int .i64 c2, .int .i64 c3, .int .i64 c4, .int .i64 c5, .int .i64 c6], .slice Ai ki ci] w fun e w' => ∃ q, e = .returned (.tuple #[.pointer (some ⟨q, 0, none⟩), .int .i64 0]) ∧ BusW n m w w' q S0) (hall : (trialB S0 xs).1 ≠ N) :
    Calls Try.prog 10 #[.agg #[.int .i64 c0, .int .i64 c1, .int .i64 c2, .int .i64 c3, .int .i64 c4, .int .i64 c5, .int .i64 c6], .slice Ai ki ci, .slice A N cN] W fun e w' => e = .returned (.tuple #[.slice none 0 0, .int .i64 16]) ∧ Chg [] W w' := by
  obtain ⟨n1, n2⟩ := one_new W (.cells #[.int .i64 c0, .int .i64 c1, .int .i64 c2, .int .i64 c3, .int .i64 c4, .int .i64 c5, .int .i64 c6] 23)
  have N2 := Lib.hid n2
  have HS := Lib.hid hs
  have HL := Lib.hid hl
  have OK := Lib.hid ok
  have HW := Lib.hid hnew
  have HA := Lib.hid hall
  clear n2 hs hl ok hnew hall
  go_enter Try.func10, Try.ntmps10
  go_upto_region 1 with fail
  generalize W.alloc (.cells #[.int .i64 c0, .int .i64 c1, .int .i64 c2, .int .i64 c3, .int .i64 c4, .int .i64 c5, .int .i64 c6] 23) = w1 at *
  generalize W.heap.size = p at *
  go_upto_region 2 with (go_at_call 16; refine (trialOf_ok (cN := cN) c0 c1 c2 c3 c4 c5 c6 Ai ki ci xs S0 OK.out w1 (HS.out.chg N2.out (by simp)) HL.out hN (fun w hw => HW.out w (N2.out.trans hw)) 16 (by rw [if_neg HA.out])).mono ?_; rintro e w2 ⟨t, q, r, rfl, h1, h2, h3⟩; have H1 := Lib.hid h1; have H2 := Lib.hid h2; have C2 := Lib.hid (N2.out.trans h2.all); clear h1 h2 h3)
  go_wp2_with fail
  go_ret2
  exact ⟨rfl, C2.out⟩
theorem keeps_bad (c0 c1 c2 c3 c4 c5 c6 : Int) (Ai : Option Addr) (ki ci : Nat) (A : Option Addr) (N cN : Nat) (W : World)
    (hnew : ∀ w, Calls Try.prog 22 #[.agg #[.int .i64 c0, .int .i64 c1, .int .i64 c2, .int .i64 c3, .int .i64 c4, .int .i64 c5, .int .i64 c6], .slice Ai ki ci] w fun e w' => e = .returned (.tuple #[.pointer none, .int .i64 1]) ∧ Chg [] w w') :
    Calls Try.prog 10 #[.agg #[.int .i64 c0, .int .i64 c1, .int .i64 c2, .int .i64 c3, .int .i64 c4, .int .i64 c5, .int .i64 c6], .slice Ai ki ci, .slice A N cN] W fun e w' => e = .returned (.tuple #[.slice none 0 0, .int .i64 1]) ∧ Chg [] W w' := by
  obtain ⟨n1, n2⟩ := one_new W (.cells #[.int .i64 c0, .int .i64 c1, .int .i64 c2, .int .i64 c3, .int .i64 c4, .int .i64 c5, .int .i64 c6] 23)
  have N2 := Lib.hid n2
  have HW := Lib.hid hnew
  clear n2 hnew
  go_enter Try.func10, Try.ntmps10
  go_upto_region 1 with fail
  generalize W.alloc (.cells #[.int .i64 c0, .int .i64 c1, .int .i64 c2, .int .i64 c3, .int .i64 c4, .int .i64 c5, .int .i64 c6] 23) = w1 at *
  generalize W.heap.size = p at *
  go_upto_region 2 with (go_at_call 16; refine (trialOf_bad c0 c1 c2 c3 c4 c5 c6 Ai ki ci A N cN w1 HW.out).mono ?_; rintro e w2 ⟨t, rfl, h1, h2⟩; have C2 := Lib.hid (N2.out.trans h2); clear h1 h2)
  go_wp2_with fail
  go_ret2
  exact ⟨rfl, C2.out⟩
end Go.Proofs.Ytnocekhgabgffaa
end
section
namespace Go.Proofs.Ytnocekhgabgffaa
open Go.RowKit
set_option linter.unusedVariables false
set_option maxHeartbeats 1000000

set_option maxRecDepth 100000
attribute [local go_sem ↓] append_appS copy_copS clear_clrS make_mkS slice_slS lookup_lookS mput_mputS del_mdelS cell_row frozen_row heap_drew heap_drewN heap_alloc heap_past heap_setCell heap_putRow heap_setB loadEv storeEv loadBe storeBe loadSp storeSp loadNw storeNw loadLine storeLine evc_kd evc_co evc_li evc_wo evc_va bec_fl bec_li bec_wo bec_va nwC_0 nwC_1 spC_0 spC_1
attribute [local go_sem] rowCell_some rowFrozen_some rowHas_some rowIn_some rowPart_full rowPart_lit rowPut_full rowPut_lit rowSet_some size_putRow size_setB run_loadS run_storeS run_appS run_copS run_clrS run_mkS run_slS run_lookS run_mputS run_mdelS loadW_at storeW_at fit_all fit_le one_int one_bool one_pointer one_slice allOne_list putRow_new ne_size1 ne_size2 ne_size3 ne_size4 wideEv wideBe wideSp wideNw wideLine evc_size evc_one evc_ne evc_lit evc_z fold_evc bec_size bec_one bec_lit bec_ne bec_at bec_in spC_size spC_one nwC_size nwC_one nwC_ne nwC_set0 nwC_set1 nwC_lit bec_set0 bec_set1 bec_set2 bec_set3 spC_set0 spC_set1 spC_lit fold_spC spC_ne fold_nwC fold_bec fold_at vs_size vs_one ic_size ic_get
attribute [local simp ↓] heap_drew heap_drewN heap_alloc heap_past heap_setCell heap_putRow heap_setB
attribute [local simp] rowCell_some rowFrozen_some rowHas_some rowIn_some rowPart_full rowPart_lit rowPut_full rowPut_lit rowSet_some size_putRow size_setB fit_all putRow_new ne_size1 ne_size2 ne_size3 ne_size4 evc_size bec_size spC_size nwC_size vs_size fit_le
section
variable {α : Type} {enc : α → List Value} {k bytes : Nat} {P : Program} {t ty e : TypeId} {z : Value}
/-- 'append([]T{}, x...)', the empty row at eb. -/
theorem clone18 (E : Elt P t e k bytes z enc) {w0 w : World} {q eb : Nat} {A : Option Addr} {n c : Nat} {ys : List α} (h0 : Chg [] w0 w) (hq : Old w0 q) (hE : w.heap[eb]? = some (.cells #[] e (0, 0))) (he : w0.heap.size ≤ eb)
    (hs : Sl w k A n (cat enc ys)) (hm : ys.length = n) (hB : n * bytes ≤ 140737488355328) (h63 : n ≤ maxLen) :
    ∃ (be' cap' : Nat) (A' : Option Addr) (w' : World), appR P t ty #[.slice (some ⟨eb, 0, none⟩) 0 0, .slice A n c] w = .ok (.slice A' n cap') w' ∧ Vec k e enc w' q be' A' cap' ys ∧ w0.heap.size ≤ be' ∧ Chg [] w0 w' ∧ Chg [eb] w w' := by
  have hne : eb ≠ q := by have := hq.lt; omega
  have hv : Vec k e enc w q eb (some ⟨eb, 0, none⟩) 0 ([] : List α) := .inr ⟨hne, rfl, by simp, [], by rw [hE]; rfl, by simp⟩
  obtain ⟨be', cap', A', w', h1, h2, h3, h4, h5⟩ := hv.app (ty := ty) E (hq.chg h0) hs (c := c) hm (by simpa using hB) (by simpa using h63)
  simp only [List.length_nil, Nat.zero_add, List.nil_append] at h1 h2
  refine ⟨be', cap', A', w', h1, h2, ?_, h0.trans' h4 (by intro x hx; rw [List.mem_singleton] at hx; exact .inr (by omega)), h4⟩
  rcases h3 with h3 | h3
  · omega
  · have := h0.size; omega
/-- .. and one more behind it. -/
theorem snoc18 (E : Elt P t e k bytes z enc) {w0 w : World} {q be b : Nat} {A : Option Addr} {n cap : Nat} {ys : List α} {y : α} (h0 : Chg [] w0 w) (hq : Old w0 q) (hv : Vec k e enc w q be A cap ys) (hbe : w0.heap.size ≤ be)
    (hm : ys.length = n) (hy : w.heap[b]? = some (.cells (enc y).toArray e (0, 0))) (hB : (n + 1) * bytes ≤ 140737488355328) (h63 : n + 1 ≤ maxLen) :
    ∃ (be' cap' : Nat) (A' : Option Addr) (w' : World), appR P t ty #[.slice A n cap, .slice (some ⟨b, 0, none⟩) 1 1] w = .ok (.slice A' (n + 1) cap') w' ∧ Vec k e enc w' q be' A' cap' (ys ++ [y]) ∧ w0.heap.size ≤ be' ∧ Chg [] w0 w' := by
  subst hm
  have hs : Sl w k (some ⟨b, 0, none⟩) 1 (cat enc [y]) := ⟨by rw [cat_length E.len]; rfl, .inr ⟨b, 0, _, e, (0, 0), rfl, hy, by rw [cat_one]; simp [E.len, List.take_of_length_le]⟩⟩
  obtain ⟨be', cap', A', w', h1, h2, h3, h4, h5⟩ := hv.app (ty := ty) E (hq.chg h0) hs (c := 1) rfl hB h63
  refine ⟨be', cap', A', w', h1, h2, ?_, h0.trans' h4 (by intro x hx; rw [List.mem_singleton] at hx; exact .inr (by omega))⟩
  rcases h3 with h3 | h3
  · omega
  · have := h0.size; omega
end
end Go.Proofs.Ytnocekhgabgffaa
end
section
namespace Go.Proofs.Ytnocekhgabgffaa
open Go.RowKit
set_option linter.unusedVariables false
set_option maxHeartbeats 1000000

set_option maxRecDepth 100000
attribute [local go_sem ↓] append_appS copy_copS clear_clrS make_mkS slice_slS lookup_lookS mput_mputS del_mdelS cell_row frozen_row heap_drew heap_drewN heap_alloc heap_past heap_setCell heap_putRow heap_setB loadEv storeEv loadBe storeBe loadSp storeSp loadNw storeNw loadLine storeLine evc_kd evc_co evc_li evc_wo evc_va bec_fl bec_li bec_wo bec_va nwC_0 nwC_1 spC_0 spC_1
attribute [local go_sem] rowCell_some rowFrozen_some rowHas_some rowIn_some rowPart_full rowPart_lit rowPut_full rowPut_lit rowSet_some size_putRow size_setB run_loadS run_storeS run_appS run_copS run_clrS run_mkS run_slS run_lookS run_mputS run_mdelS loadW_at storeW_at fit_all fit_le one_int one_bool one_pointer one_slice allOne_list putRow_new ne_size1 ne_size2 ne_size3 ne_size4 wideEv wideBe wideSp wideNw wideLine evc_size evc_one evc_ne evc_lit evc_z fold_evc bec_size bec_one bec_lit bec_ne bec_at bec_in spC_size spC_one nwC_size nwC_one nwC_ne nwC_set0 nwC_set1 nwC_lit bec_set0 bec_set1 bec_set2 bec_set3 spC_set0 spC_set1 spC_lit fold_spC spC_ne fold_nwC fold_bec fold_at vs_size vs_one ic_size ic_get
attribute [local simp ↓] heap_drew heap_drewN heap_alloc heap_past heap_setCell heap_putRow heap_setB
attribute [local simp] rowCell_some rowFrozen_some rowHas_some rowIn_some rowPart_full rowPart_lit rowPut_full rowPut_lit rowSet_some size_putRow size_setB fit_all putRow_new ne_size1 ne_size2 ne_size3 ne_size4 evc_size bec_size spC_size nwC_size vs_size fit_le
/-! ### A list without its first one; a copy of it -/
section
variable {α : Type} {enc : α → List Value} {k : Nat}
theorem Sl.tail18 {w : World} {A : Option Addr} {n cap : Nat} {y : α} {ys : List α} (hk : ∀ a, (enc a).length = k) (h : Sl w k A (n + 1) (cat enc (y :: ys))) (hc : n + 1 ≤ cap) : Sl w k (behind k A cap) n (cat enc ys) := by
  have h1 := h.1
  rw [cat_cons, List.length_append, hk, Nat.add_mul, Nat.one_mul] at h1
  refine ⟨by omega, ?_⟩
  rcases h.2 with h2 | ⟨b, o, c, t, f, e1, e2, e3⟩
  · omega
  · by_cases h0 : cap = 1
    · exact .inl (by omega)
    · refine .inr ⟨b, o + k, c, t, f, ?_, e2, ?_⟩
      · unfold behind
        rw [if_neg h0, e1]
        simp [Addr.add]
      · rw [Nat.add_mul, Nat.one_mul, cat_cons] at e3
        have e4 := congrArg (List.drop k) e3
        rw [List.drop_take, List.drop_drop, Nat.add_sub_cancel] at e4
        rw [e4, ← hk y, List.drop_left]
end
attribute [local go_sem ↓] loadIt storeIt loadSn storeSn loadPl storePl
attribute [local go_sem] wideIt wideSn widePl
theorem vec_in {α : Type} {k : Nat} {e : TypeId} {enc : α → List Value} {w : World} {q be cap : Nat} {A : Option Addr} {xs : List α} (h : Vec k e enc w q be A cap xs) (I : List Nat) : ∀ a, A = some a → a.block ∈ be :: I := by
  rcases h with ⟨_, h, _⟩ | ⟨_, h, _⟩
  · intro a ha; rw [h] at ha; cases ha
  · intro a ha; rw [h] at ha; cases ha; simp
section
variable {z : Cf} {w w' : World} {q bl kb bp bc ck : Nat} {I : List Nat} {xs : List Ci} {R : Rb} {N : Nat}
theorem done_3yes (P : DbP z w q bl kb bp bc ck I xs R) (ok : R.Ok z N) (hN : N ≤ 1000) {i : Nat} (hi : i < z.m) (kd co li wo va : Int) (t12 : (kd == 12) = false) (t14 : (kd == 14) = false) (t3 : (kd == 3) = true) (t4 : (kd == 4) = false) (l o : Nat) (hl : l < z.n) (ho : o < 8) (hli : li = l) (hwo : wo = o) (hf : firstR (R.core i) ⟨false, li, wo, va⟩ = true) :
    Calls Try.prog 30 #[.pointer (some ⟨q, 0, none⟩), .pointer (some ⟨bc, i * 6, none⟩), .agg (evc ⟨kd, co, li, wo, va⟩)] w (DoneTo z w q bl kb bp bc ck I ((R.setW l o va).setC i (lockC { R.core i with L := (R.core i).L.tail } ⟨kd, co, li, wo, va⟩))) := by
  subst hli hwo
  obtain ⟨x, hx, hcr, hd⟩ := P.core hi
  obtain ⟨n1, n2⟩ := one_new w (.cells (evc ⟨kd, co, (l : Int), (o : Int), va⟩) 41)
  have P1 := P.keep n2 (by simp)
  have hpn : w.heap.size ≠ bc := by have := P.old bc (by simp); omega
  have hpb : w.heap.size ≠ bl := by have := P.old bl (by simp); omega
  have HPN := Lib.hid hpn
  have HPB := Lib.hid hpb
  have N2 := Lib.hid n2
  have HX := Lib.hid hx
  clear n2 hd P hcr hpn hpb
  go_enter Try.func30, Try.ntmps30
  try dsimp only [List.append]
  go_upto_region 1 with fail
  generalize w.alloc (.cells (evc ⟨kd, co, (l : Int), (o : Int), va⟩) 41) = w1 at *
  generalize w.heap.size = p at *
  have hb1 := P1.hc
  have hls := ok.ls
  obtain ⟨x', e1, e2, hd0⟩ := P1.core hi
  rw [HX.out] at e1
  cases e1
  have D1 := Lib.hid hd0
  have hcs := (ok.core i).1
  have hlt : l * 8 + o < R.ls.length := by rw [hls]; omega
  obtain ⟨yo, hyo⟩ : ∃ yo, R.ls[l * 8 + o]? = some yo := ⟨_, List.getElem?_eq_getElem hlt⟩
  have hcl : (bk R.ls [])[l * 8 + o]? = some (.int .u64 yo) := by unfold bk; rw [List.append_nil, List.getElem?_toArray, List.getElem?_map, hyo]; rfl
  have HLT := Lib.hid hlt
  have HF := Lib.hid hf
  have u0 : (0 : Int) ≤ (l : Int) := by omega
  have u1 : (l : Int) < (z.n : Int) := by omega
  have u2 : (0 : Int) ≤ (o : Int) := by omega
  have u3 : (o : Int) < 8 := by omega
  clear hyo hd0 e2 hf
  go_upto_region 8 with (go_at_call 40; refine (rfirst_any hb1 HX.out D1.out (by omega) ⟨false, l, o, va⟩).mono ?_; rintro e w3 ⟨rfl, c9⟩; rw [HF.out]; have n3 := c9.keep n1 List.not_mem_nil; have P3 := Lib.hid (P1.keep c9 (fun _ _ => List.not_mem_nil)); have C3 := Lib.hid ((N2.out.trans c9).mono (l' := [bl, bc]) (by simp)); clear c9)
  clear hb1 n1 P1 D1
  obtain ⟨x', e1, e2, hd0⟩ := P3.out.core hi
  rw [HX.out] at e1
  cases e1
  obtain ⟨y, L', hL⟩ : ∃ y L', (R.core i).L = y :: L' := by
    cases hL : (R.core i).L with
    | nil => have := HF.out; simp [firstR, hL] at this
    | cons y L' => exact ⟨y, L', rfl⟩
  have HLt := Lib.hid (show (R.core i).L.tail = L' by rw [hL]; rfl)
  have LEN := Lib.hid (show i < R.cs.length by rw [ok.cs]; exact hi)
  have hn0 : x.n = L'.length + 1 := by rw [hd0.n, hL]; rfl
  have hcap := hd0.cA
  have hsl := hd0.hA
  rw [hL, hn0] at hsl
  rw [hn0] at hcap
  have hst := hsl.tail18 Be.len hcap
  have hlen : L'.length ≤ 1000 := by have := (ok.core i).1; rw [hL] at this; simp at this; omega
  obtain ⟨c0, _, _, _, _, _⟩ := ci_cells HX.out
  rw [hn0] at c0
  have hb3 := P3.out.hc
  have hq3 := P3.out.hq
  have oq := old hq3
  have obc := old hb3
  have hslt := fun w => slR_tail (P := Try.prog) eltIt x.A L'.length x.cap hcap w
  have hE : (w3.alloc (.cells #[] 101)).heap[w3.heap.size]? = some (.cells #[] 101 (0, 0)) := (MapKept.heap_alloc w3 _).1
  have cE : Chg [] w3 (w3.alloc (.cells #[] 101)) := (Chg.refl [] w3).alloc _
  obtain ⟨b4, p4, A4, w4, e4, v4, nn4, k4, _⟩ := clone18 (ty := 77) eltIt (c := x.cap - 1) cE oq hE (Nat.le_refl _) (hst.chg cE (by simp)) rfl (by omega) (by unfold maxLen; omega)
  have hb4 := k4.keep hb3 List.not_mem_nil
  have n4 := k4.keep n3 List.not_mem_nil
  have f5 : (w4.setCell ⟨bc, i * 6, none⟩ (.slice A4 L'.length p4)).heap[bc]? = some (.cells (sq Ci.enc (xs.set i { x with A := A4, n := L'.length, cap := p4 }) []) 82 (0, 0)) := by rw [heap_setCell, if_pos rfl, hb4, rowSet_some, ci_A HX.out]
  have g4 : Chg [bc] w4 (w4.setCell ⟨bc, i * 6, none⟩ (.slice A4 L'.length p4)) := (Chg.refl [bc] w4).setCell _ _ _ (.inl (by simp))
  have g5 : Chg [bc] w3 (w4.setCell ⟨bc, i * 6, none⟩ (.slice A4 L'.length p4)) := (k4.mono (by simp)).trans g4
  have n5 := g4.keep n4 (by simpa using HPN.out)
  have hv := v4.sl Be.len
  have hbig : ∀ y ∈ I, y ∉ [bc] := fun y hy h => P3.out.iF y hy (by simp only [List.mem_singleton] at h; simp [h])
  have hob : b4 < w4.heap.size := (v4.old (oq.chg k4)).lt
  have hb4n : ∀ a, A4 = some a → a.block ∉ [bc] := fun a ha => by
    have h1 := vec_in v4 [] a ha
    have h2 := P3.out.old bc (by simp)
    simp only [List.mem_singleton] at h1 ⊢
    omega
  have hd5 : DcM (w4.setCell ⟨bc, i * 6, none⟩ (.slice A4 L'.length p4)) { x with A := A4, n := L'.length, cap := p4 } (b4 :: I) { R.core i with L := L' } := by
    have h6 := hd0.keep g5 hbig
    exact ⟨rfl, h6.k, hv.chg g4 hb4n, h6.hB, vec_in v4 I, fun a ha => List.mem_cons_of_mem _ (h6.iB a ha), h6.st, h6.lk, h6.pl, v4.le, h6.cB⟩
  have P5 := Lib.hid (P3.out.setC hi g5 (by simp) f5 hd5 (fun y hy => List.mem_cons_of_mem _ hy) (fun y hy => by
    rcases List.mem_cons.1 hy with h | h
    · exact .inr (by omega)
    · exact .inl h) (fun y hy => by
    rcases List.mem_cons.1 hy with h | h
    · rw [h]; exact Nat.lt_of_lt_of_le hob g4.size
    · exact Nat.lt_of_lt_of_le (P3.out.iO y h) g5.size))
  have C5 := Lib.hid (C3.out.trans (g5.mono (l' := [bl, bc]) (by simp)))
  have HNI := Lib.hid (show ∀ y, y ∈ b4 :: I → y ∈ I ∨ w.heap.size ≤ y from fun y hy => by
    rcases List.mem_cons.1 hy with h | h
    · have := C3.out.size; exact .inr (by omega)
    · exact .inl h)
  have hxb : (xs.set i { x with A := A4, n := L'.length, cap := p4 })[i]? = some { x with A := A4, n := L'.length, cap := p4 } := List.getElem?_set_self (List.getElem?_eq_some_iff.1 HX.out).1
  have HXB := Lib.hid hxb
  clear hsl hst hE cE v4 nn4 k4 hcap hn0 e2 hd0 n4 hv hbig hob hb4n hd5 hxb f5 g4 g5 n3
  unfold dbc at hq3
  go_upto_region 9 with fail
  clear hslt e4 c0 hb4 hq3 oq obc hb3
  generalize w4.setCell ⟨bc, i * 6, none⟩ (.slice A4 L'.length p4) = w5 at *
  generalize ({ x with A := A4, n := L'.length, cap := p4 } : Ci) = xB at *
  generalize xs.set i xB = xsB at *
  have hq5 := P5.out.hq
  unfold dbc at hq5
  have hl5 : w5.heap[bl]? = some (.cells (bk R.ls []) 44 (0, 0)) := P5.out.hl
  go_region
  have f0 : (w5.setCell ⟨bl, l * 8 + o, none⟩ (.int .u64 va)).drew.heap[bl]? = some (.cells (bk (R.ls.set (l * 8 + o) va) []) 44 (0, 0)) := by rw [heap_drew, heap_setCell, if_pos rfl, hl5, rowSet_some, bk_set _ _ _ _ HLT.out]
  have g0 : Chg [bl] w5 (w5.setCell ⟨bl, l * 8 + o, none⟩ (.int .u64 va)).drew := ((Chg.refl [bl] w5).setCell _ _ _ (.inl (by simp))).drew
  have m0 := g0.keep n5 (by simpa using HPB.out)
  have PA := Lib.hid (P5.out.setL g0 f0)
  have CA := Lib.hid (C5.out.trans (g0.mono (by simp)))
  have hbA := PA.out.hc
  clear f0 g0 n5 hl5
  generalize (w5.setCell ⟨bl, l * 8 + o, none⟩ (.int .u64 va)).drew = wA at *
  obtain ⟨_, _, _, k0, _, _⟩ := ci_cells HXB.out
  go_upto_region 20 with fail
  have f1 : (wA.setCell ⟨bc, i * 6 + 3, none⟩ (.bool false)).heap[bc]? = some (.cells (sq Ci.enc (xsB.set i { xB with lk := false }) []) 82 (0, 0)) := by rw [heap_setCell, if_pos rfl, hbA, rowSet_some, ci_lk HXB.out]
  have g1 : Chg [bc] wA (wA.setCell ⟨bc, i * 6 + 3, none⟩ (.bool false)) := (Chg.refl [bc] wA).setCell _ _ _ (.inl (by simp))
  have m1 := g1.keep m0 (by simpa using HPN.out)
  generalize wA.setCell ⟨bc, i * 6 + 3, none⟩ (.bool false) = wB at *
  have hil : i < xsB.length := (List.getElem?_eq_some_iff.1 HXB.out).1
  have x1 : (xsB.set i { xB with lk := false })[i]? = some { xB with lk := false } := List.getElem?_set_self hil
  have h2 := ci_has (xs := xsB.set i { xB with lk := false }) (i := i) (by simpa using hil) 82
  have f2 : (putRow wB bc (i * 6 + 4) (spC 0 0)).heap[bc]? = some (.cells (sq Ci.enc (xsB.set i { xB with lk := false, pl := (0, 0) }) []) 82 (0, 0)) := by rw [heap_putRow _ _ _ _ _ (by rw [spC_size, f1]; exact h2), if_pos rfl, f1, ci_pl x1, List.set_set]
  have g2 : Chg [bc] wA (putRow wB bc (i * 6 + 4) (spC 0 0)) := g1.trans ((Chg.refl [bc] wB).putRow _ _ _ (.inl (by simp)))
  have m2 := ((Chg.refl [bc] wB).putRow bc (i * 6 + 4) (spC 0 0) (.inl (by simp))).keep m1 (by simpa using HPN.out)
  go_upto_region 21 with fail
  clear f1 m1 g1 h2 x1
  generalize putRow wB bc (i * 6 + 4) (spC 0 0) = wC at *
  have x2 : (xsB.set i { xB with lk := false, pl := (0, 0) })[i]? = some { xB with lk := false, pl := (0, 0) } := List.getElem?_set_self hil
  obtain ⟨_, _, _, k3, _, _⟩ := ci_cells x2
  dsimp only at k3
  clear k0
  have h4 : ¬ kd = 4 := by simpa using t4
  have DN := Lib.hid (PA.out.lock hi HXB.out ⟨kd, co, (l : Int), (o : Int), va⟩ (b := false) (pl := (0, 0)) (by simp [h4]) (by simp [h4]) g2 f2)
  have CN := Lib.hid (CA.out.trans (g2.mono (by simp)))
  clear g2 x2 h4
  go_wp2_with fail
  go_end0
  exact ⟨rfl, _, _, (by rw [← lock_eq (R := R.setW l o va) LEN.out]; exact DN.out), CN.out, HNI.out⟩
end
end Go.Proofs.Ytnocekhgabgffaa
end
section
namespace Go.Proofs.Ytnocekhgabgffaa
open Go.RowKit
set_option linter.unusedVariables false
set_option maxHeartbeats 1000000

set_option maxRecDepth 100000
attribute [local go_sem ↓] append_appS copy_copS clear_clrS make_mkS slice_slS lookup_lookS mput_mputS del_mdelS cell_row frozen_row heap_drew heap_drewN heap_alloc heap_past heap_setCell heap_putRow heap_setB loadEv storeEv loadBe storeBe loadSp storeSp loadNw storeNw loadLine storeLine evc_kd evc_co evc_li evc_wo evc_va bec_fl bec_li bec_wo bec_va nwC_0 nwC_1 spC_0 spC_1
attribute [local go_sem] rowCell_some rowFrozen_some rowHas_some rowIn_some rowPart_full rowPart_lit rowPut_full rowPut_lit rowSet_some size_putRow size_setB run_loadS run_storeS run_appS run_copS run_clrS run_mkS run_slS run_lookS run_mputS run_mdelS loadW_at storeW_at fit_all fit_le one_int one_bool one_pointer one_slice allOne_list putRow_new ne_size1 ne_size2 ne_size3 ne_size4 wideEv wideBe wideSp wideNw wideLine evc_size evc_one evc_ne evc_lit evc_z fold_evc bec_size bec_one bec_lit bec_ne bec_at bec_in spC_size spC_one nwC_size nwC_one nwC_ne nwC_set0 nwC_set1 nwC_lit bec_set0 bec_set1 bec_set2 bec_set3 spC_set0 spC_set1 spC_lit fold_spC spC_ne fold_nwC fold_bec fold_at vs_size vs_one ic_size ic_get
attribute [local simp ↓] heap_drew heap_drewN heap_alloc heap_past heap_setCell heap_putRow heap_setB
attribute [local simp] rowCell_some rowFrozen_some rowHas_some rowIn_some rowPart_full rowPart_lit rowPut_full rowPut_lit rowSet_some size_putRow size_setB fit_all putRow_new ne_size1 ne_size2 ne_size3 ne_size4 evc_size bec_size spC_size nwC_size vs_size fit_le
section
variable {z : Cf} {w w' : World} {q bl kb bp bc ck : Nat} {I : List Nat} {xs : List Ci} {R : Rb} {N : Nat}
/-- A core's buffer is a new list. -/
theorem DbP.putL {i : Nat} {x : Ci} {wK W : World} {AK : Option Addr} {bK pK nK : Nat} {L2 : List Be} (P : DbP z w q bl kb bp bc ck I xs R) (hi : i < z.m) (hx : xs[i]? = some x) (hv : Vec 4 101 Be.enc wK q bK AK pK L2) (hnK : nK = L2.length) (hn : w.heap.size ≤ bK) (hk : Chg [] w wK) (hW : W = wK.setCell ⟨bc, i * 6, none⟩ (.slice AK nK pK)) :
    DbP z W q bl kb bp bc ck (bK :: I) (xs.set i { x with A := AK, n := nK, cap := pK }) (R.setC i { R.core i with L := L2 }) ∧ Chg [bc] w W := by
  subst hW hnK
  obtain ⟨x', e1, e2, hd0⟩ := P.core hi
  rw [hx] at e1
  cases e1
  have hb3 := P.hc
  have oq : Old w q := lt_heap P.hq
  have hb4 := hk.keep hb3 List.not_mem_nil
  have f5 : (wK.setCell ⟨bc, i * 6, none⟩ (.slice AK L2.length pK)).heap[bc]? = some (.cells (sq Ci.enc (xs.set i { x with A := AK, n := L2.length, cap := pK }) []) 82 (0, 0)) := by rw [heap_setCell, if_pos rfl, hb4, rowSet_some, ci_A hx]
  have g4 : Chg [bc] wK (wK.setCell ⟨bc, i * 6, none⟩ (.slice AK L2.length pK)) := (Chg.refl [bc] wK).setCell _ _ _ (.inl (by simp))
  have g5 : Chg [bc] w (wK.setCell ⟨bc, i * 6, none⟩ (.slice AK L2.length pK)) := (hk.mono (by simp)).trans g4
  have hbig : ∀ y ∈ I, y ∉ [bc] := fun y hy h => P.iF y hy (by simp only [List.mem_singleton] at h; simp [h])
  have hob : bK < wK.heap.size := (hv.old (oq.chg hk)).lt
  have hb4n : ∀ a, AK = some a → a.block ∉ [bc] := fun a ha => by
    have h1 := vec_in hv [] a ha
    have h2 := P.old bc (by simp)
    simp only [List.mem_singleton] at h1 ⊢
    omega
  have h6 := hd0.keep g5 hbig
  have hd5 : DcM (wK.setCell ⟨bc, i * 6, none⟩ (.slice AK L2.length pK)) { x with A := AK, n := L2.length, cap := pK } (bK :: I) { R.core i with L := L2 } :=
    ⟨rfl, h6.k, (hv.sl Be.len).chg g4 hb4n, h6.hB, vec_in hv I, fun a ha => List.mem_cons_of_mem _ (h6.iB a ha), h6.st, h6.lk, h6.pl, hv.le, h6.cB⟩
  refine ⟨P.setC hi g5 (by simp) f5 hd5 (fun y hy => List.mem_cons_of_mem _ hy) (fun y hy => ?_) (fun y hy => ?_), g5⟩
  · rcases List.mem_cons.1 hy with h | h
    · exact .inr (by omega)
    · exact .inl h
  · rcases List.mem_cons.1 hy with h | h
    · rw [h]; exact Nat.lt_of_lt_of_le hob g4.size
    · exact Nat.lt_of_lt_of_le (P.iO y h) g5.size
/-- A core's flushes on their way are a new list. -/
theorem DbP.putS {i : Nat} {x : Ci} {wK W : World} {AK : Option Addr} {bK pK nK : Nat} {L2 : List (Int × Int)} (P : DbP z w q bl kb bp bc ck I xs R) (hi : i < z.m) (hx : xs[i]? = some x) (hv : Vec 2 104 snE wK q bK AK pK L2) (hnK : nK = L2.length) (hn : w.heap.size ≤ bK) (hk : Chg [] w wK) (hW : W = wK.setCell ⟨bc, i * 6 + 1, none⟩ (.slice AK nK pK)) :
    DbP z W q bl kb bp bc ck (bK :: I) (xs.set i { x with B := AK, k := nK, kap := pK }) (R.setC i { R.core i with S := L2 }) ∧ Chg [bc] w W := by
  subst hW hnK
  obtain ⟨x', e1, e2, hd0⟩ := P.core hi
  rw [hx] at e1
  cases e1
  have hb3 := P.hc
  have oq : Old w q := lt_heap P.hq
  have hb4 := hk.keep hb3 List.not_mem_nil
  have f5 : (wK.setCell ⟨bc, i * 6 + 1, none⟩ (.slice AK L2.length pK)).heap[bc]? = some (.cells (sq Ci.enc (xs.set i { x with B := AK, k := L2.length, kap := pK }) []) 82 (0, 0)) := by rw [heap_setCell, if_pos rfl, hb4, rowSet_some, ci_B hx]
  have g4 : Chg [bc] wK (wK.setCell ⟨bc, i * 6 + 1, none⟩ (.slice AK L2.length pK)) := (Chg.refl [bc] wK).setCell _ _ _ (.inl (by simp))
  have g5 : Chg [bc] w (wK.setCell ⟨bc, i * 6 + 1, none⟩ (.slice AK L2.length pK)) := (hk.mono (by simp)).trans g4
  have hbig : ∀ y ∈ I, y ∉ [bc] := fun y hy h => P.iF y hy (by simp only [List.mem_singleton] at h; simp [h])
  have hob : bK < wK.heap.size := (hv.old (oq.chg hk)).lt
  have hb4n : ∀ a, AK = some a → a.block ∉ [bc] := fun a ha => by
    have h1 := vec_in hv [] a ha
    have h2 := P.old bc (by simp)
    simp only [List.mem_singleton] at h1 ⊢
    omega
  have h6 := hd0.keep g5 hbig
  have hd5 : DcM (wK.setCell ⟨bc, i * 6 + 1, none⟩ (.slice AK L2.length pK)) { x with B := AK, k := L2.length, kap := pK } (bK :: I) { R.core i with S := L2 } :=
    ⟨h6.n, rfl, h6.hA, (hv.sl snE_len).chg g4 hb4n, fun a ha => List.mem_cons_of_mem _ (h6.iA a ha), vec_in hv I, h6.st, h6.lk, h6.pl, h6.cA, hv.le⟩
  refine ⟨P.setC hi g5 (by simp) f5 hd5 (fun y hy => List.mem_cons_of_mem _ hy) (fun y hy => ?_) (fun y hy => ?_), g5⟩
  · rcases List.mem_cons.1 hy with h | h
    · exact .inr (by omega)
    · exact .inl h
  · rcases List.mem_cons.1 hy with h | h
    · rw [h]; exact Nat.lt_of_lt_of_le hob g4.size
    · exact Nat.lt_of_lt_of_le (P.iO y h) g5.size
end
end Go.Proofs.Ytnocekhgabgffaa
end
section
namespace Go.Proofs.Ytnocekhgabgffaa
open Go.RowKit
set_option linter.unusedVariables false
set_option maxHeartbeats 1000000

set_option maxRecDepth 100000
attribute [local go_sem ↓] append_appS copy_copS clear_clrS make_mkS slice_slS lookup_lookS mput_mputS del_mdelS cell_row frozen_row heap_drew heap_drewN heap_alloc heap_past heap_setCell heap_putRow heap_setB loadEv storeEv loadBe storeBe loadSp storeSp loadNw storeNw loadLine storeLine evc_kd evc_co evc_li evc_wo evc_va bec_fl bec_li bec_wo bec_va nwC_0 nwC_1 spC_0 spC_1
attribute [local go_sem] rowCell_some rowFrozen_some rowHas_some rowIn_some rowPart_full rowPart_lit rowPut_full rowPut_lit rowSet_some size_putRow size_setB run_loadS run_storeS run_appS run_copS run_clrS run_mkS run_slS run_lookS run_mputS run_mdelS loadW_at storeW_at fit_all fit_le one_int one_bool one_pointer one_slice allOne_list putRow_new ne_size1 ne_size2 ne_size3 ne_size4 wideEv wideBe wideSp wideNw wideLine evc_size evc_one evc_ne evc_lit evc_z fold_evc bec_size bec_one bec_lit bec_ne bec_at bec_in spC_size spC_one nwC_size nwC_one nwC_ne nwC_set0 nwC_set1 nwC_lit bec_set0 bec_set1 bec_set2 bec_set3 spC_set0 spC_set1 spC_lit fold_spC spC_ne fold_nwC fold_bec fold_at vs_size vs_one ic_size ic_get
attribute [local simp ↓] heap_drew heap_drewN heap_alloc heap_past heap_setCell heap_putRow heap_setB
attribute [local simp] rowCell_some rowFrozen_some rowHas_some rowIn_some rowPart_full rowPart_lit rowPut_full rowPut_lit rowSet_some size_putRow size_setB fit_all putRow_new ne_size1 ne_size2 ne_size3 ne_size4 evc_size bec_size spC_size nwC_size vs_size fit_le
attribute [local go_sem ↓] loadIt storeIt loadSn storeSn loadPl storePl
attribute [local go_sem] wideIt wideSn widePl
section
variable {z : Cf} {w w' : World} {q bl kb bp bc ck : Nat} {I : List Nat} {xs : List Ci} {R : Rb} {N : Nat}
theorem done_14 (P : DbP z w q bl kb bp bc ck I xs R) (ok : R.Ok z N) (hN : N ≤ 1000) {i : Nat} (hi : i < z.m) (kd co li wo va : Int) (t12 : (kd == 12) = false) (t14 : (kd == 14) = true) (t4 : (kd == 4) = false) :
    Calls Try.prog 30 #[.pointer (some ⟨q, 0, none⟩), .pointer (some ⟨bc, i * 6, none⟩), .agg (evc ⟨kd, co, li, wo, va⟩)] w (DoneTo z w q bl kb bp bc ck I (R.setC i (lockC { R.core i with L := (R.core i).L ++ [⟨true, li, 0, 0⟩] } ⟨kd, co, li, wo, va⟩))) := by
  obtain ⟨x, hx, hcr, hd⟩ := P.core hi
  obtain ⟨n1, n2⟩ := one_new w (.cells (evc ⟨kd, co, li, wo, va⟩) 41)
  have P1 := P.keep n2 (by simp)
  have hpn : w.heap.size ≠ bc := by have := P.old bc (by simp); omega
  have hpb : w.heap.size ≠ bl := by have := P.old bl (by simp); omega
  have HPN := Lib.hid hpn
  have HPB := Lib.hid hpb
  have N2 := Lib.hid n2
  have HX := Lib.hid hx
  clear n2 hd P hcr hpn hpb
  go_enter Try.func30, Try.ntmps30
  try dsimp only [List.append]
  go_upto_region 1 with fail
  generalize w.alloc (.cells (evc ⟨kd, co, li, wo, va⟩) 41) = w1 at *
  generalize w.heap.size = p at *
  obtain ⟨x', e1, e2, hd0⟩ := P1.core hi
  rw [HX.out] at e1
  cases e1
  have hb1 := P1.hc
  have oq : Old w1 q := lt_heap P1.hq
  have obc := old hb1
  have on1 := old n1
  have hlen : (R.core i).L.length ≤ 1000 := by have := (ok.core i).1; omega
  have hs0 := hd0.hA
  rw [hd0.n] at hs0
  obtain ⟨c0, _, _, _, _, _⟩ := ci_cells HX.out
  rw [hd0.n] at c0
  have P1' := Lib.hid P1
  have LEN := Lib.hid (show i < R.cs.length by rw [ok.cs]; exact hi)
  clear e2 hd0 P1
  have cA := ((Chg.refl [] w1).alloc (.cells #[] 101)).drew
  have cC := ((Chg.refl [] w1).alloc (.cells (bec (⟨true, li, 0, 0⟩ : Be)) 101)).drew
  have cAC := (((Chg.refl [] w1).alloc (.cells #[] 101)).alloc (.cells (bec (⟨true, li, 0, 0⟩ : Be)) 101)).drew
  have cCA := (((Chg.refl [] w1).alloc (.cells (bec (⟨true, li, 0, 0⟩ : Be)) 101)).alloc (.cells #[] 101)).drew
  obtain ⟨b1, p1, A1, w3, e1, v1, nn1, k1, k1'⟩ := clone18 (ty := 77) eltIt (c := x.cap) cA oq (eb := w1.heap.size) (by simp) (Nat.le_refl _) (hs0.chg cA (by simp)) rfl (by omega) (by unfold maxLen; omega)
  have k1a := k1.alloc (.cells (bec (⟨true, li, 0, 0⟩ : Be)) 101)
  obtain ⟨b2, p2, A2, w4, e2', v2, nn2, k2⟩ := snoc18 (ty := 77) eltIt (y := (⟨true, li, 0, 0⟩ : Be)) (b := w3.heap.size) k1a oq (v1.keep ((Chg.refl [] w3).alloc (.cells (bec (⟨true, li, 0, 0⟩ : Be)) 101)) (by simp)) nn1 rfl (by simp [bec_enc]) (by omega) (by unfold maxLen; omega)
  obtain ⟨b3, p3, A3, w5, e3, v3, nn3, k3, k3'⟩ := clone18 (ty := 77) eltIt (c := x.cap) cAC oq (eb := w1.heap.size) (by simp) (Nat.le_refl _) (hs0.chg cAC (by simp)) rfl (by omega) (by unfold maxLen; omega)
  obtain ⟨b4, p4, A4, w6, e4, v4, nn4, k4⟩ := snoc18 (ty := 77) eltIt (y := (⟨true, li, 0, 0⟩ : Be)) (b := w1.heap.size + 1) k3 oq v3 nn3 rfl (k3'.keep (by simp [bec_enc]) (by simp)) (by omega) (by unfold maxLen; omega)
  obtain ⟨b5, p5, A5, w7, e5, v5, nn5, k5, k5'⟩ := clone18 (ty := 77) eltIt (c := x.cap) cCA oq (eb := w1.heap.size + 1) (by simp) (by omega) (hs0.chg cCA (by simp)) rfl (by omega) (by unfold maxLen; omega)
  obtain ⟨b6, p6, A6, w8, e6, v6, nn6, k6⟩ := snoc18 (ty := 77) eltIt (y := (⟨true, li, 0, 0⟩ : Be)) (b := w1.heap.size) k5 oq v5 nn5 rfl (k5'.keep (by simp [bec_enc]) (by simp)) (by omega) (by unfold maxLen; omega)
  have n3 := k1.keep n1 List.not_mem_nil
  have on3 := old n3
  have hb4 := k2.keep hb1 List.not_mem_nil
  have hb6 := k4.keep hb1 List.not_mem_nil
  have hb8 := k6.keep hb1 List.not_mem_nil
  have K2 := Lib.hid (And.intro v2 (And.intro nn2 k2))
  have K4 := Lib.hid (And.intro v4 (And.intro nn4 k4))
  have K6 := Lib.hid (And.intro v6 (And.intro nn6 k6))
  clear v1 nn1 k1 k1' k1a v2 nn2 k2 v3 nn3 k3 k3' v4 nn4 k4 v5 nn5 k5 k5' v6 nn6 k6 cA cC cAC cCA
  go_upto_region 5 with fail
  go_region
  · obtain ⟨v, nn, kk⟩ := K2.out
    obtain ⟨PA0, c1⟩ := P1'.out.putL hi HX.out v (nK := (R.core i).L.length + 1) (by simp) nn kk (W := (w4.setCell ⟨bc, i * 6, none⟩ (.slice A2 ((R.core i).L.length + 1) p2))) rfl
    have PA := Lib.hid PA0
    have CA := Lib.hid ((N2.out.mono (l' := [bl, bc]) (by simp)).trans (c1.mono (by simp)))
    have HNI := Lib.hid (show ∀ y, y ∈ b2 :: I → y ∈ I ∨ w.heap.size ≤ y from fun y hy => by
      rcases List.mem_cons.1 hy with h | h
      · have := N2.out.size; exact .inr (by omega)
      · exact .inl h)
    have m0 := c1.keep n1 (by simpa using HPN.out)
    have hbA := PA0.hc
    have HXB := Lib.hid (show (xs.set i { x with A := A2, n := (R.core i).L.length + 1, cap := p2 })[i]? = some { x with A := A2, n := (R.core i).L.length + 1, cap := p2 } from List.getElem?_set_self (List.getElem?_eq_some_iff.1 HX.out).1)
    clear K2 K4 K6 v nn kk PA0 c1 hb4 hb6 hb8 n1 hb1 n3 on3 c0 hs0 hx P1'
    generalize (w4.setCell ⟨bc, i * 6, none⟩ (.slice A2 ((R.core i).L.length + 1) p2)) = wA at *
    generalize ({ x with A := A2, n := (R.core i).L.length + 1, cap := p2 } : Ci) = xB at *
    generalize xs.set i xB = xsB at *
    obtain ⟨_, _, _, k0, _, _⟩ := ci_cells HXB.out
    go_upto_region 20 with fail
    have f1 : (wA.setCell ⟨bc, i * 6 + 3, none⟩ (.bool false)).heap[bc]? = some (.cells (sq Ci.enc (xsB.set i { xB with lk := false }) []) 82 (0, 0)) := by rw [heap_setCell, if_pos rfl, hbA, rowSet_some, ci_lk HXB.out]
    have g1 : Chg [bc] wA (wA.setCell ⟨bc, i * 6 + 3, none⟩ (.bool false)) := (Chg.refl [bc] wA).setCell _ _ _ (.inl (by simp))
    have m1 := g1.keep m0 (by simpa using HPN.out)
    generalize wA.setCell ⟨bc, i * 6 + 3, none⟩ (.bool false) = wB at *
    have hil : i < xsB.length := (List.getElem?_eq_some_iff.1 HXB.out).1
    have x1 : (xsB.set i { xB with lk := false })[i]? = some { xB with lk := false } := List.getElem?_set_self hil
    have h2 := ci_has (xs := xsB.set i { xB with lk := false }) (i := i) (by simpa using hil) 82
    have f2 : (putRow wB bc (i * 6 + 4) (spC 0 0)).heap[bc]? = some (.cells (sq Ci.enc (xsB.set i { xB with lk := false, pl := (0, 0) }) []) 82 (0, 0)) := by rw [heap_putRow _ _ _ _ _ (by rw [spC_size, f1]; exact h2), if_pos rfl, f1, ci_pl x1, List.set_set]
    have g2 : Chg [bc] wA (putRow wB bc (i * 6 + 4) (spC 0 0)) := g1.trans ((Chg.refl [bc] wB).putRow _ _ _ (.inl (by simp)))
    have m2 := ((Chg.refl [bc] wB).putRow bc (i * 6 + 4) (spC 0 0) (.inl (by simp))).keep m1 (by simpa using HPN.out)
    go_upto_region 21 with fail
    clear f1 m1 g1 h2 x1
    generalize putRow wB bc (i * 6 + 4) (spC 0 0) = wC at *
    have x2 : (xsB.set i { xB with lk := false, pl := (0, 0) })[i]? = some { xB with lk := false, pl := (0, 0) } := List.getElem?_set_self hil
    obtain ⟨_, _, _, k3, _, _⟩ := ci_cells x2
    dsimp only at k3
    clear k0
    have h4 : ¬ kd = 4 := by simpa using t4
    have DN := Lib.hid (PA.out.lock hi HXB.out ⟨kd, co, li, wo, va⟩ (b := false) (pl := (0, 0)) (by simp [h4]) (by simp [h4]) g2 f2)
    have CN := Lib.hid (CA.out.trans (g2.mono (by simp)))
    clear g2 x2 h4
    go_wp2_with fail
    go_end0
    exact ⟨rfl, _, _, (by rw [← lock_eq (R := R) LEN.out]; exact DN.out), CN.out, HNI.out⟩
  · obtain ⟨v, nn, kk⟩ := K4.out
    obtain ⟨PA0, c1⟩ := P1'.out.putL hi HX.out v (nK := (R.core i).L.length + 1) (by simp) nn kk (W := (w6.setCell ⟨bc, i * 6, none⟩ (.slice A4 ((R.core i).L.length + 1) p4))) rfl
    have PA := Lib.hid PA0
    have CA := Lib.hid ((N2.out.mono (l' := [bl, bc]) (by simp)).trans (c1.mono (by simp)))
    have HNI := Lib.hid (show ∀ y, y ∈ b4 :: I → y ∈ I ∨ w.heap.size ≤ y from fun y hy => by
      rcases List.mem_cons.1 hy with h | h
      · have := N2.out.size; exact .inr (by omega)
      · exact .inl h)
    have m0 := c1.keep n1 (by simpa using HPN.out)
    have hbA := PA0.hc
    have HXB := Lib.hid (show (xs.set i { x with A := A4, n := (R.core i).L.length + 1, cap := p4 })[i]? = some { x with A := A4, n := (R.core i).L.length + 1, cap := p4 } from List.getElem?_set_self (List.getElem?_eq_some_iff.1 HX.out).1)
    clear K2 K4 K6 v nn kk PA0 c1 hb4 hb6 hb8 n1 hb1 n3 on3 c0 hs0 hx P1'
    generalize (w6.setCell ⟨bc, i * 6, none⟩ (.slice A4 ((R.core i).L.length + 1) p4)) = wA at *
    generalize ({ x with A := A4, n := (R.core i).L.length + 1, cap := p4 } : Ci) = xB at *
    generalize xs.set i xB = xsB at *
    obtain ⟨_, _, _, k0, _, _⟩ := ci_cells HXB.out
    go_upto_region 20 with fail
    have f1 : (wA.setCell ⟨bc, i * 6 + 3, none⟩ (.bool false)).heap[bc]? = some (.cells (sq Ci.enc (xsB.set i { xB with lk := false }) []) 82 (0, 0)) := by rw [heap_setCell, if_pos rfl, hbA, rowSet_some, ci_lk HXB.out]
    have g1 : Chg [bc] wA (wA.setCell ⟨bc, i * 6 + 3, none⟩ (.bool false)) := (Chg.refl [bc] wA).setCell _ _ _ (.inl (by simp))
    have m1 := g1.keep m0 (by simpa using HPN.out)
    generalize wA.setCell ⟨bc, i * 6 + 3, none⟩ (.bool false) = wB at *
    have hil : i < xsB.length := (List.getElem?_eq_some_iff.1 HXB.out).1
    have x1 : (xsB.set i { xB with lk := false })[i]? = some { xB with lk := false } := List.getElem?_set_self hil
    have h2 := ci_has (xs := xsB.set i { xB with lk := false }) (i := i) (by simpa using hil) 82
    have f2 : (putRow wB bc (i * 6 + 4) (spC 0 0)).heap[bc]? = some (.cells (sq Ci.enc (xsB.set i { xB with lk := false, pl := (0, 0) }) []) 82 (0, 0)) := by rw [heap_putRow _ _ _ _ _ (by rw [spC_size, f1]; exact h2), if_pos rfl, f1, ci_pl x1, List.set_set]
    have g2 : Chg [bc] wA (putRow wB bc (i * 6 + 4) (spC 0 0)) := g1.trans ((Chg.refl [bc] wB).putRow _ _ _ (.inl (by simp)))
    have m2 := ((Chg.refl [bc] wB).putRow bc (i * 6 + 4) (spC 0 0) (.inl (by simp))).keep m1 (by simpa using HPN.out)
    go_upto_region 21 with fail
    clear f1 m1 g1 h2 x1
    generalize putRow wB bc (i * 6 + 4) (spC 0 0) = wC at *
    have x2 : (xsB.set i { xB with lk := false, pl := (0, 0) })[i]? = some { xB with lk := false, pl := (0, 0) } := List.getElem?_set_self hil
    obtain ⟨_, _, _, k3, _, _⟩ := ci_cells x2
    dsimp only at k3
    clear k0
    have h4 : ¬ kd = 4 := by simpa using t4
    have DN := Lib.hid (PA.out.lock hi HXB.out ⟨kd, co, li, wo, va⟩ (b := false) (pl := (0, 0)) (by simp [h4]) (by simp [h4]) g2 f2)
    have CN := Lib.hid (CA.out.trans (g2.mono (by simp)))
    clear g2 x2 h4
    go_wp2_with fail
    go_end0
    exact ⟨rfl, _, _, (by rw [← lock_eq (R := R) LEN.out]; exact DN.out), CN.out, HNI.out⟩
  · obtain ⟨v, nn, kk⟩ := K6.out
    obtain ⟨PA0, c1⟩ := P1'.out.putL hi HX.out v (nK := (R.core i).L.length + 1) (by simp) nn kk (W := (w8.setCell ⟨bc, i * 6, none⟩ (.slice A6 ((R.core i).L.length + 1) p6))) rfl
    have PA := Lib.hid PA0
    have CA := Lib.hid ((N2.out.mono (l' := [bl, bc]) (by simp)).trans (c1.mono (by simp)))
    have HNI := Lib.hid (show ∀ y, y ∈ b6 :: I → y ∈ I ∨ w.heap.size ≤ y from fun y hy => by
      rcases List.mem_cons.1 hy with h | h
      · have := N2.out.size; exact .inr (by omega)
      · exact .inl h)
    have m0 := c1.keep n1 (by simpa using HPN.out)
    have hbA := PA0.hc
    have HXB := Lib.hid (show (xs.set i { x with A := A6, n := (R.core i).L.length + 1, cap := p6 })[i]? = some { x with A := A6, n := (R.core i).L.length + 1, cap := p6 } from List.getElem?_set_self (List.getElem?_eq_some_iff.1 HX.out).1)
    clear K2 K4 K6 v nn kk PA0 c1 hb4 hb6 hb8 n1 hb1 n3 on3 c0 hs0 hx P1'
    generalize (w8.setCell ⟨bc, i * 6, none⟩ (.slice A6 ((R.core i).L.length + 1) p6)) = wA at *
    generalize ({ x with A := A6, n := (R.core i).L.length + 1, cap := p6 } : Ci) = xB at *
    generalize xs.set i xB = xsB at *
    obtain ⟨_, _, _, k0, _, _⟩ := ci_cells HXB.out
    go_upto_region 20 with fail
    have f1 : (wA.setCell ⟨bc, i * 6 + 3, none⟩ (.bool false)).heap[bc]? = some (.cells (sq Ci.enc (xsB.set i { xB with lk := false }) []) 82 (0, 0)) := by rw [heap_setCell, if_pos rfl, hbA, rowSet_some, ci_lk HXB.out]
    have g1 : Chg [bc] wA (wA.setCell ⟨bc, i * 6 + 3, none⟩ (.bool false)) := (Chg.refl [bc] wA).setCell _ _ _ (.inl (by simp))
    have m1 := g1.keep m0 (by simpa using HPN.out)
    generalize wA.setCell ⟨bc, i * 6 + 3, none⟩ (.bool false) = wB at *
    have hil : i < xsB.length := (List.getElem?_eq_some_iff.1 HXB.out).1
    have x1 : (xsB.set i { xB with lk := false })[i]? = some { xB with lk := false } := List.getElem?_set_self hil
    have h2 := ci_has (xs := xsB.set i { xB with lk := false }) (i := i) (by simpa using hil) 82
    have f2 : (putRow wB bc (i * 6 + 4) (spC 0 0)).heap[bc]? = some (.cells (sq Ci.enc (xsB.set i { xB with lk := false, pl := (0, 0) }) []) 82 (0, 0)) := by rw [heap_putRow _ _ _ _ _ (by rw [spC_size, f1]; exact h2), if_pos rfl, f1, ci_pl x1, List.set_set]
    have g2 : Chg [bc] wA (putRow wB bc (i * 6 + 4) (spC 0 0)) := g1.trans ((Chg.refl [bc] wB).putRow _ _ _ (.inl (by simp)))
    have m2 := ((Chg.refl [bc] wB).putRow bc (i * 6 + 4) (spC 0 0) (.inl (by simp))).keep m1 (by simpa using HPN.out)
    go_upto_region 21 with fail
    clear f1 m1 g1 h2 x1
    generalize putRow wB bc (i * 6 + 4) (spC 0 0) = wC at *
    have x2 : (xsB.set i { xB with lk := false, pl := (0, 0) })[i]? = some { xB with lk := false, pl := (0, 0) } := List.getElem?_set_self hil
    obtain ⟨_, _, _, k3, _, _⟩ := ci_cells x2
    dsimp only at k3
    clear k0
    have h4 : ¬ kd = 4 := by simpa using t4
    have DN := Lib.hid (PA.out.lock hi HXB.out ⟨kd, co, li, wo, va⟩ (b := false) (pl := (0, 0)) (by simp [h4]) (by simp [h4]) g2 f2)
    have CN := Lib.hid (CA.out.trans (g2.mono (by simp)))
    clear g2 x2 h4
    go_wp2_with fail
    go_end0
    exact ⟨rfl, _, _, (by rw [← lock_eq (R := R) LEN.out]; exact DN.out), CN.out, HNI.out⟩
end
end Go.Proofs.Ytnocekhgabgffaa
end
section
namespace Go.Proofs.Ytnocekhgabgffaa
open Go.RowKit
set_option linter.unusedVariables false
set_option maxHeartbeats 1000000

set_option maxRecDepth 100000
attribute [local go_sem ↓] append_appS copy_copS clear_clrS make_mkS slice_slS lookup_lookS mput_mputS del_mdelS cell_row frozen_row heap_drew heap_drewN heap_alloc heap_past heap_setCell heap_putRow heap_setB loadEv storeEv loadBe storeBe loadSp storeSp loadNw storeNw loadLine storeLine evc_kd evc_co evc_li evc_wo evc_va bec_fl bec_li bec_wo bec_va nwC_0 nwC_1 spC_0 spC_1
attribute [local go_sem] rowCell_some rowFrozen_some rowHas_some rowIn_some rowPart_full rowPart_lit rowPut_full rowPut_lit rowSet_some size_putRow size_setB run_loadS run_storeS run_appS run_copS run_clrS run_mkS run_slS run_lookS run_mputS run_mdelS loadW_at storeW_at fit_all fit_le one_int one_bool one_pointer one_slice allOne_list putRow_new ne_size1 ne_size2 ne_size3 ne_size4 wideEv wideBe wideSp wideNw wideLine evc_size evc_one evc_ne evc_lit evc_z fold_evc bec_size bec_one bec_lit bec_ne bec_at bec_in spC_size spC_one nwC_size nwC_one nwC_ne nwC_set0 nwC_set1 nwC_lit bec_set0 bec_set1 bec_set2 bec_set3 spC_set0 spC_set1 spC_lit fold_spC spC_ne fold_nwC fold_bec fold_at vs_size vs_one ic_size ic_get
attribute [local simp ↓] heap_drew heap_drewN heap_alloc heap_past heap_setCell heap_putRow heap_setB
attribute [local simp] rowCell_some rowFrozen_some rowHas_some rowIn_some rowPart_full rowPart_lit rowPut_full rowPut_lit rowSet_some size_putRow size_setB fit_all putRow_new ne_size1 ne_size2 ne_size3 ne_size4 evc_size bec_size spC_size nwC_size vs_size fit_le
attribute [local go_sem ↓] loadIt storeIt loadSn storeSn loadPl storePl
attribute [local go_sem] wideIt wideSn widePl
theorem slS_to (A : Option Addr) (n cap k : Nat) (h1 : k ≤ n) (h2 : n ≤ cap) (w : World) : slR Try.prog 78 (.slice A n cap) none (some (.int .i64 k)) none w = .ok (.slice A k cap) w := by
  obtain ⟨i0, hi0⟩ : ∃ i, Try.prog.info? 104 = some i := Option.isSome_iff_exists.1 (by kernel_rfl)
  unfold slR
  have h3 : (0 : Int) ≤ (k : Int) := by omega
  have h4 : k ≤ cap := by omega
  cases A with
  | none => simp [Instr.slice, Instr.sliceBounds, Instr.sliceBound, asIntOf, run_underlying Try.underlying78, sizeOf, typeInfo, hi0, h3, h4]
  | some a =>
    have h6 : a.add 0 = a := by simp [Addr.add]
    simp [Instr.slice, Instr.sliceBounds, Instr.sliceBound, asIntOf, run_underlying Try.underlying78, sizeOf, typeInfo, hi0, h3, h4, h6]
theorem slR_back18 {α : Type} {enc : α → List Value} {k bytes : Nat} {P : Program} {t e : TypeId} {z : Value} (E : Elt P t e k bytes z enc) {w : World} {A : Option Addr} {n cap lo : Nat} {ys : List α} (hs : Sl w k A n (cat enc ys)) (hlo : lo ≤ n) (hc : n ≤ cap) :
    ∃ A', (∀ W, slR P t (.slice A n cap) (some (.int .i64 lo)) none none W = .ok (.slice A' (n - lo) (cap - lo)) W) ∧ Sl w k A' (n - lo) (cat enc (ys.drop lo)) := by
  refine ⟨if cap = lo then A else A.map (·.add (lo * k)), fun W => ?_, ?_⟩
  · obtain ⟨i0, hi0, hz0, hz1, hz2⟩ := info_parts E.info
    subst hz1
    unfold slR
    have h1 : (0 : Int) ≤ (lo : Int) := by omega
    simp [Instr.slice, Instr.sliceBounds, Instr.sliceBound, asIntOf, run_underlying E.slice, sizeOf, typeInfo, hi0, h1, hlo]
  · obtain ⟨h1, h2⟩ := hs
    have hl : ((ys.drop lo).map enc).flatten.length = (n - lo) * k := by
      show (cat enc (ys.drop lo)).length = _
      rw [← cat_drop E.len, List.length_drop, h1, Nat.sub_mul]
    refine ⟨hl, ?_⟩
    rcases Nat.eq_zero_or_pos (n - lo) with h0 | h0
    · exact .inl h0
    · rcases h2 with h2 | ⟨b, o, c, t', f, rfl, hb, hx⟩
      · omega
      · rw [if_neg (by omega)]
        refine .inr ⟨b, o + lo * k, c, t', f, by simp [Addr.add], hb, ?_⟩
        rw [← cat_drop E.len, ← hx, List.drop_take, List.drop_drop, Nat.sub_mul]
theorem Sl.take18 {α : Type} {enc : α → List Value} {s : Nat} (hE : ∀ a, (enc a).length = s) {w : World} {A : Option Addr} {n k : Nat} {xs : List α} (h : Sl w s A n (cat enc xs)) (hl : xs.length = n) (hk : k ≤ n) : Sl w s A k (cat enc (xs.take k)) := by
  refine ⟨by rw [cat_length hE, List.length_take]; congr 1; omega, ?_⟩
  rcases h.2 with h2 | ⟨b, o, c, t, f, h1, h2, h3⟩
  · exact .inl (by omega)
  · refine .inr ⟨b, o, c, t, f, h1, h2, ?_⟩
    rw [← cat_take hE, ← h3, List.take_take, Nat.min_eq_left (Nat.mul_le_mul_right _ hk)]
theorem sentI_lt {l : Int} : ∀ {S : List (Int × Int)} {k : Nat}, sentI S l = some k → k < S.length := by
  intro S k h
  obtain ⟨A, p, B, rfl, rfl, _⟩ := sentI_some h
  simp
section
variable {z : Cf} {w w' : World} {q bl kb bp bc ck : Nat} {I : List Nat} {xs : List Ci} {R : Rb} {N : Nat}
theorem done_6 (P : DbP z w q bl kb bp bc ck I xs R) (ok : R.Ok z N) (hN : N ≤ 1000) {i : Nat} (hi : i < z.m) (kd co li wo va : Int) (t12 : (kd == 12) = false) (t14 : (kd == 14) = false) (t3 : (kd == 3) = false) (t13 : (kd == 13) = false) (t6 : (kd == 6) = true) (t4 : (kd == 4) = false) (l k : Nat) (hli : li = l) (hk : sentI (R.core i).S l = some k) :
    Calls Try.prog 30 #[.pointer (some ⟨q, 0, none⟩), .pointer (some ⟨bc, i * 6, none⟩), .agg (evc ⟨kd, co, li, wo, va⟩)] w (DoneTo z w q bl kb bp bc ck I (R.setC i (lockC { R.core i with S := (R.core i).S.take k ++ (R.core i).S.drop (k + 1) } ⟨kd, co, li, wo, va⟩))) := by
  subst hli
  obtain ⟨x, hx, hcr, hd⟩ := P.core hi
  obtain ⟨n1, n2⟩ := one_new w (.cells (evc ⟨kd, co, (l : Int), wo, va⟩) 41)
  have P1 := P.keep n2 (by simp)
  have hpn : w.heap.size ≠ bc := by have := P.old bc (by simp); omega
  have hpb : w.heap.size ≠ bl := by have := P.old bl (by simp); omega
  have HPN := Lib.hid hpn
  have HPB := Lib.hid hpb
  have N2 := Lib.hid n2
  have HX := Lib.hid hx
  clear n2 hd P hcr hpn hpb
  go_enter Try.func30, Try.ntmps30
  try dsimp only [List.append]
  go_upto_region 1 with fail
  generalize w.alloc (.cells (evc ⟨kd, co, (l : Int), wo, va⟩) 41) = w1 at *
  generalize w.heap.size = p at *
  have hb1 := P1.hc
  obtain ⟨x', e1, e2, hd0⟩ := P1.core hi
  rw [HX.out] at e1
  cases e1
  have D1 := Lib.hid hd0
  have hcs := (ok.core i).2
  have HK := Lib.hid hk
  clear hd0 e2 hk
  go_upto_region 15 with (go_at_call 41; refine (rsent_any hb1 HX.out D1.out (by omega) (l : Int) (k : Int) (by unfold sentV; rw [HK.out])).mono ?_; rintro e w3 ⟨rfl, c9⟩; have n3 := c9.keep n1 List.not_mem_nil; have P3 := Lib.hid (P1.keep c9 (fun _ _ => List.not_mem_nil)); have C3 := Lib.hid ((N2.out.trans c9).mono (l' := [bl, bc]) (by simp)); clear c9)
  clear hb1 n1 P1 D1
  obtain ⟨x', e1, e2, hd0⟩ := P3.out.core hi
  rw [HX.out] at e1
  cases e1
  have hkl := sentI_lt HK.out
  have hs0 := hd0.hB
  rw [hd0.k] at hs0
  have hcap := hd0.cB
  rw [hd0.k] at hcap
  obtain ⟨_, c0, _, _, _, _⟩ := ci_cells HX.out
  rw [hd0.k] at c0
  have LEN := Lib.hid (show i < R.cs.length by rw [ok.cs]; exact hi)
  have hs1 := hs0.take18 snE_len rfl (Nat.le_of_lt hkl)
  obtain ⟨AB, hsb, hs2⟩ := slR_back18 (P := Try.prog) (t := 78) eltSn (lo := k + 1) hs0 (by omega) hcap
  have hst := fun W => slS_to x.B (R.core i).S.length x.kap k (Nat.le_of_lt hkl) hcap W
  have hsb' : ∀ W, slR Try.prog 78 (.slice x.B (R.core i).S.length x.kap) (some (.int .i64 ((k : Int) + 1))) none none W = .ok (.slice AB ((R.core i).S.length - (k + 1)) (x.kap - (k + 1))) W := hsb
  have hmm : ((R.core i).S.drop (k + 1)).length = (R.core i).S.length - (k + 1) := List.length_drop
  have htk : ((R.core i).S.take k).length = k := by rw [List.length_take]; omega
  have hk1000 : (k : Int) ≤ 1000 := by omega
  have hk0 : (0 : Int) ≤ (k : Int) := by omega
  have hm1000 : (R.core i).S.length - (k + 1) ≤ 1000 := by omega
  generalize hmE : (R.core i).S.length - (k + 1) = m at *
  generalize hnE : (R.core i).S.length = nS at *
  have hb3 := P3.out.hc
  have oq : Old w3 q := lt_heap P3.out.hq
  have obc := old hb3
  have on3 := old n3
  have cA := ((Chg.refl [] w3).alloc (.cells #[] 104)).drew
  obtain ⟨b1, p1, A1, y3, e1, v1, nn1, k1, k1'⟩ := clone18 (ty := 78) eltSn (c := x.kap) cA oq (eb := w3.heap.size) (by simp) (Nat.le_refl _) (hs1.chg cA (by simp)) htk (by omega) (by unfold maxLen; omega)
  obtain ⟨b2, p2, A2, y4, e2', v2, nn2, k2, _⟩ := v1.app (ty := 78) eltSn (oq.chg k1) (hs2.chg k1 (by simp)) (c := x.kap - (k + 1)) hmm (by omega) (by unfold maxLen; omega)
  rw [htk] at e2'
  have k3 : Chg [] w3 y4 := k1.trans' k2 (by intro y hy; rw [List.mem_singleton] at hy; exact .inr (by omega))
  have nn3 : w3.heap.size ≤ b2 := by
    have := k1.size
    rcases nn2 with h | h <;> omega
  have n4 := k1.keep n3 List.not_mem_nil
  have hb4 := k1.keep hb3 List.not_mem_nil
  have hb5 := k3.keep hb3 List.not_mem_nil
  have K2 := Lib.hid (And.intro v2 (And.intro nn3 k3))
  have HLN := Lib.hid (show k + m = ((R.core i).S.take k ++ (R.core i).S.drop (k + 1)).length by rw [List.length_append, htk, hmm])
  clear v1 nn1 k1 k1' v2 nn2 k2 k3 nn3 cA hsb hs1 hs2 hs0 hcap hmE hnE hmm htk hkl e2 hd0 hcs
  go_region
  obtain ⟨v, nn, kk⟩ := K2.out
  obtain ⟨PA0, c1⟩ := P3.out.putS hi HX.out v (nK := k + m) HLN.out nn kk (W := (y4.setCell ⟨bc, i * 6 + 1, none⟩ (.slice A2 (k + m) p2))) rfl
  have PA := Lib.hid PA0
  have CA := Lib.hid (C3.out.trans (c1.mono (by simp)))
  have HNJ := Lib.hid (show ∀ y, y ∈ b2 :: I → y ∈ I ∨ w.heap.size ≤ y from fun y hy => by
    rcases List.mem_cons.1 hy with h | h
    · have := C3.out.size; exact .inr (by omega)
    · exact .inl h)
  have m0 := c1.keep n3 (by simpa using HPN.out)
  have hbA := PA0.hc
  have HXC := Lib.hid (show (xs.set i { x with B := A2, k := k + m, kap := p2 })[i]? = some { x with B := A2, k := k + m, kap := p2 } from List.getElem?_set_self (List.getElem?_eq_some_iff.1 HX.out).1)
  clear K2 v nn kk PA0 c1 hb4 hb3 hb5 n3 n4 on3 c0 P3
  generalize (y4.setCell ⟨bc, i * 6 + 1, none⟩ (.slice A2 (k + m) p2)) = wA at *
  generalize ({ x with B := A2, k := k + m, kap := p2 } : Ci) = xC at *
  generalize xs.set i xC = xsC at *
  obtain ⟨_, _, _, k0, _, _⟩ := ci_cells HXC.out
  go_upto_region 20 with fail
  have f1 : (wA.setCell ⟨bc, i * 6 + 3, none⟩ (.bool false)).heap[bc]? = some (.cells (sq Ci.enc (xsC.set i { xC with lk := false }) []) 82 (0, 0)) := by rw [heap_setCell, if_pos rfl, hbA, rowSet_some, ci_lk HXC.out]
  have g1 : Chg [bc] wA (wA.setCell ⟨bc, i * 6 + 3, none⟩ (.bool false)) := (Chg.refl [bc] wA).setCell _ _ _ (.inl (by simp))
  have m1 := g1.keep m0 (by simpa using HPN.out)
  generalize wA.setCell ⟨bc, i * 6 + 3, none⟩ (.bool false) = wB at *
  have hil : i < xsC.length := (List.getElem?_eq_some_iff.1 HXC.out).1
  have x1 : (xsC.set i { xC with lk := false })[i]? = some { xC with lk := false } := List.getElem?_set_self hil
  have h2 := ci_has (xs := xsC.set i { xC with lk := false }) (i := i) (by simpa using hil) 82
  have f2 : (putRow wB bc (i * 6 + 4) (spC 0 0)).heap[bc]? = some (.cells (sq Ci.enc (xsC.set i { xC with lk := false, pl := (0, 0) }) []) 82 (0, 0)) := by rw [heap_putRow _ _ _ _ _ (by rw [spC_size, f1]; exact h2), if_pos rfl, f1, ci_pl x1, List.set_set]
  have g2 : Chg [bc] wA (putRow wB bc (i * 6 + 4) (spC 0 0)) := g1.trans ((Chg.refl [bc] wB).putRow _ _ _ (.inl (by simp)))
  have m2 := ((Chg.refl [bc] wB).putRow bc (i * 6 + 4) (spC 0 0) (.inl (by simp))).keep m1 (by simpa using HPN.out)
  go_upto_region 21 with fail
  clear f1 m1 g1 h2 x1
  generalize putRow wB bc (i * 6 + 4) (spC 0 0) = wC at *
  have x2 : (xsC.set i { xC with lk := false, pl := (0, 0) })[i]? = some { xC with lk := false, pl := (0, 0) } := List.getElem?_set_self hil
  obtain ⟨_, _, _, k3, _, _⟩ := ci_cells x2
  dsimp only at k3
  clear k0
  have h4 : ¬ kd = 4 := by simpa using t4
  have DN := Lib.hid (PA.out.lock hi HXC.out ⟨kd, co, (l : Int), wo, va⟩ (b := false) (pl := (0, 0)) (by simp [h4]) (by simp [h4]) g2 f2)
  have CN := Lib.hid (CA.out.trans (g2.mono (by simp)))
  clear g2 x2 h4
  go_wp2_with fail
  go_end0
  exact ⟨rfl, _, _, (by have h := DN.out; rw [lock_eq LEN.out] at h; exact h), CN.out, HNJ.out⟩
end
end Go.Proofs.Ytnocekhgabgffaa
end
