/- Check, Ends, Keeps: walked. No condition. -/
import Derived.Test.YtnocekhgabgffaaOrb
import Derived.Test.YtnocekhgabgffaaBur
namespace Go.Proofs.Ytnocekhgabgffaa
open Go.RowKit
set_option linter.unusedVariables false
set_option maxHeartbeats 1000000

set_option maxRecDepth 100000
attribute [local go_sem ↓] append_appS copy_copS clear_clrS make_mkS slice_slS lookup_lookS mput_mputS del_mdelS cell_row frozen_row heap_drew heap_drewN heap_alloc heap_past heap_setCell heap_putRow heap_setB loadEv storeEv loadBe storeBe loadSp storeSp loadNw storeNw loadLine storeLine evc_kd evc_co evc_li evc_wo evc_va bec_fl bec_li bec_wo bec_va nwC_0 nwC_1 spC_0 spC_1
attribute [local go_sem] rowCell_some rowFrozen_some rowHas_some rowIn_some rowPart_full rowPart_lit rowPut_full rowPut_lit rowSet_some size_putRow size_setB run_loadS run_storeS run_appS run_copS run_clrS run_mkS run_slS run_lookS run_mputS run_mdelS loadW_at storeW_at fit_all fit_le one_int one_bool one_pointer one_slice allOne_list putRow_new ne_size1 ne_size2 ne_size3 ne_size4 wideEv wideBe wideSp wideNw wideLine evc_size evc_one evc_ne evc_lit evc_z fold_evc bec_size bec_one bec_lit bec_ne bec_at bec_in spC_size spC_one nwC_size nwC_one nwC_ne nwC_set0 nwC_set1 nwC_lit bec_set0 bec_set1 bec_set2 bec_set3 spC_set0 spC_set1 spC_lit fold_spC spC_ne fold_nwC fold_bec fold_at vs_size vs_one ic_size ic_get
attribute [local simp ↓] heap_drew heap_drewN heap_alloc heap_past heap_setCell heap_putRow heap_setB
attribute [local simp] rowCell_some rowFrozen_some rowHas_some rowIn_some rowPart_full rowPart_lit rowPut_full rowPut_lit rowSet_some size_putRow size_setB fit_all putRow_new ne_size1 ne_size2 ne_size3 ne_size4 evc_size bec_size spC_size nwC_size vs_size fit_le
attribute [local go_sem ↓] loadCf storeCf
attribute [local go_sem] wideCf
theorem check_ok {n m : Nat} (c0 c1 c2 c3 c4 c5 c6 : Int) (Ai : Option Addr) (ki ci : Nat) {A : Option Addr} {N cN : Nat} (xs : List Ev) (S0 : Bs) (ok : S0.Ok n m 0) (W : World) (hs : Sl W 5 A N (cat Ev.enc xs)) (hl : xs.length = N) (hN : N ≤ 500)
    (hnew : ∀ w, Chg [] W w → Calls Try.prog 22 #[.agg #[.int .i64 c0, .int .i64 c1, .int .i64 c2, .int .i64 c3, .int .i64 c4, .int .i64 c5, .int .i64 c6], .slice Ai ki ci] w fun e w' => ∃ q, e = .returned (.tuple #[.pointer (some ⟨q, 0, none⟩), .int .i64 0]) ∧ BusW n m w w' q S0) (vd : Int) (hvd : vd = if (trialB S0 xs).1 = N then 0 else 16) (at0 : Int) (hat : at0 = (trialB S0 xs).1) :
    Calls Try.prog 7 #[.agg #[.int .i64 c0, .int .i64 c1, .int .i64 c2, .int .i64 c3, .int .i64 c4, .int .i64 c5, .int .i64 c6], .slice Ai ki ci, .slice A N cN] W fun e w' => e = .returned (.tuple #[.int .i64 at0, .int .i64 vd]) ∧ Chg [] W w' := by
  obtain ⟨n1, n2⟩ := one_new W (.cells #[.int .i64 c0, .int .i64 c1, .int .i64 c2, .int .i64 c3, .int .i64 c4, .int .i64 c5, .int .i64 c6] 23)
  have N2 := Lib.hid n2
  have HS := Lib.hid hs
  have HL := Lib.hid hl
  have OK := Lib.hid ok
  have HW := Lib.hid hnew
  have HV := Lib.hid hvd
  have HT := Lib.hid hat
  clear n2 hs hl ok hnew hvd hat
  go_enter Try.func7, Try.ntmps7
  go_upto_region 1 with fail
  generalize W.alloc (.cells #[.int .i64 c0, .int .i64 c1, .int .i64 c2, .int .i64 c3, .int .i64 c4, .int .i64 c5, .int .i64 c6] 23) = w1 at *
  generalize W.heap.size = p at *
  go_upto_region 2 with (go_at_call 16; refine (trialOf_ok (cN := cN) c0 c1 c2 c3 c4 c5 c6 Ai ki ci xs S0 OK.out w1 (HS.out.chg N2.out (by simp)) HL.out hN (fun w hw => HW.out w (N2.out.trans hw)) vd HV.out).mono ?_; rintro e w2 ⟨t, q, r, rfl, h1, h2, h3⟩; have H1 := Lib.hid h1; have H2 := Lib.hid h2; have C2 := Lib.hid (N2.out.trans h2.all); clear h1 h2 h3)
  have hle := trialB_le xs S0
  rw [HL.out] at hle
  have HA := Lib.hid hle
  clear hle
  go_wp2_with (go_at_call 17; refine (allowed_any _ t _ _ _ H1.out (by omega) (by have := HA.out; omega)).mono ?_; rintro e w3 ⟨rfl, rfl⟩)
  go_ret2
  exact ⟨by rw [HT.out]; rfl, C2.out⟩
theorem check_bad (c0 c1 c2 c3 c4 c5 c6 : Int) (Ai : Option Addr) (ki ci : Nat) (A : Option Addr) (N cN : Nat) (W : World)
    (hnew : ∀ w, Calls Try.prog 22 #[.agg #[.int .i64 c0, .int .i64 c1, .int .i64 c2, .int .i64 c3, .int .i64 c4, .int .i64 c5, .int .i64 c6], .slice Ai ki ci] w fun e w' => e = .returned (.tuple #[.pointer none, .int .i64 1]) ∧ Chg [] w w') :
    Calls Try.prog 7 #[.agg #[.int .i64 c0, .int .i64 c1, .int .i64 c2, .int .i64 c3, .int .i64 c4, .int .i64 c5, .int .i64 c6], .slice Ai ki ci, .slice A N cN] W fun e w' => e = .returned (.tuple #[.int .i64 0, .int .i64 1]) ∧ Chg [] W w' := by
  obtain ⟨n1, n2⟩ := one_new W (.cells #[.int .i64 c0, .int .i64 c1, .int .i64 c2, .int .i64 c3, .int .i64 c4, .int .i64 c5, .int .i64 c6] 23)
  have N2 := Lib.hid n2
  have HW := Lib.hid hnew
  clear n2 hnew
  go_enter Try.func7, Try.ntmps7
  go_upto_region 1 with fail
  generalize W.alloc (.cells #[.int .i64 c0, .int .i64 c1, .int .i64 c2, .int .i64 c3, .int .i64 c4, .int .i64 c5, .int .i64 c6] 23) = w1 at *
  generalize W.heap.size = p at *
  go_upto_region 2 with (go_at_call 16; refine (trialOf_bad c0 c1 c2 c3 c4 c5 c6 Ai ki ci A N cN w1 HW.out).mono ?_; rintro e w2 ⟨t, rfl, h1, h2⟩; have H1 := Lib.hid h1; have C2 := Lib.hid (N2.out.trans h2); clear h1 h2)
  go_wp2_with (go_at_call 17; refine (allowed_any _ t _ _ _ H1.out (by omega) (by omega)).mono ?_; rintro e w3 ⟨rfl, rfl⟩)
  go_ret2
  exact ⟨rfl, C2.out⟩
theorem ends_ok {n m : Nat} (c0 c1 c2 c3 c4 c5 c6 : Int) (Ai : Option Addr) (ki ci : Nat) {A : Option Addr} {N cN : Nat} (xs : List Ev) (S0 : Bs) (ok : S0.Ok n m 0) (W : World) (hs : Sl W 5 A N (cat Ev.enc xs)) (hl : xs.length = N) (hN : N ≤ 500)
    (hnew : ∀ w, Chg [] W w → Calls Try.prog 22 #[.agg #[.int .i64 c0, .int .i64 c1, .int .i64 c2, .int .i64 c3, .int .i64 c4, .int .i64 c5, .int .i64 c6], .slice Ai ki ci] w fun e w' => ∃ q, e = .returned (.tuple #[.pointer (some ⟨q, 0, none⟩), .int .i64 0]) ∧ BusW n m w w' q S0) (hall : (trialB S0 xs).1 = N) :
    Calls Try.prog 9 #[.agg #[.int .i64 c0, .int .i64 c1, .int .i64 c2, .int .i64 c3, .int .i64 c4, .int .i64 c5, .int .i64 c6], .slice Ai ki ci, .slice A N cN] W fun e w' => ∃ g cap r, e = .returned (.tuple #[.slice (some ⟨g, 0, none⟩) n cap, .int .i64 0]) ∧ w'.heap[g]? = some (.cells (bk (trialB S0 xs).2.ls r) 44 (0, 0)) ∧ W.heap.size ≤ g ∧ n ≤ cap ∧ Chg [] W w' := by
  obtain ⟨n1, n2⟩ := one_new W (.cells #[.int .i64 c0, .int .i64 c1, .int .i64 c2, .int .i64 c3, .int .i64 c4, .int .i64 c5, .int .i64 c6] 23)
  have N2 := Lib.hid n2
  have HS := Lib.hid hs
  have HL := Lib.hid hl
  have OK := Lib.hid ok
  have HW := Lib.hid hnew
  have HA := Lib.hid hall
  clear n2 hs hl ok hnew hall
  go_enter Try.func9, Try.ntmps9
  go_upto_region 1 with fail
  generalize W.alloc (.cells #[.int .i64 c0, .int .i64 c1, .int .i64 c2, .int .i64 c3, .int .i64 c4, .int .i64 c5, .int .i64 c6] 23) = w1 at *
  generalize W.heap.size = p at *
  go_upto_region 2 with (go_at_call 16; refine (trialOf_ok (cN := cN) c0 c1 c2 c3 c4 c5 c6 Ai ki ci xs S0 OK.out w1 (HS.out.chg N2.out (by simp)) HL.out hN (fun w hw => HW.out w (N2.out.trans hw)) 0 (by rw [if_pos HA.out])).mono ?_; rintro e w2 ⟨t, q, r, rfl, h1, h2, h3⟩; have H1 := Lib.hid h1; have H2 := Lib.hid h2; have C2 := Lib.hid (N2.out.trans h2.all); clear h1 h2 h3)
  have hok := trialB_ok xs OK.out
  have HO := Lib.hid hok
  have ht := H1.out
  unfold TrialAt trc at ht
  clear hok n1
  go_wp2_with (go_at_call 20; refine (by { obtain ⟨F, g1, _⟩ := H2.out; exact blines_ok g1 HO.out } : Calls Try.prog 20 _ _ (LinesOf _ n (trialB S0 xs).2.ls)).mono ?_; rintro e w3 ⟨g, cap, r3, rfl, kh, kg, kl, kd⟩)
  go_ret2
  exact ⟨g, cap, r3, rfl, kh, Nat.le_trans C2.out.size kg, kl, C2.out.trans kd⟩
theorem ends_no {n m : Nat} (c0 c1 c2 c3 c4 c5 c6 : Int) (Ai : Option Addr) (ki ci : Nat) {A : Option Addr} {N cN : Nat} (xs : List Ev) (S0 : Bs) (ok : S0.Ok n m 0) (W : World) (hs : Sl W 5 A N (cat Ev.enc xs)) (hl : xs.length = N) (hN : N ≤ 500)
    (hnew : ∀ w, Chg [] W w → Calls Try.prog 22 #[.agg #[.int .i64 c0, .int .i64 c1, .int .i64 c2, .int .i64 c3, .int .i64 c4, .int .i64 c5, .int .i64 c6], .slice Ai ki ci] w fun e w' => ∃ q, e = .returned (.tuple #[.pointer (some ⟨q, 0, none⟩), .int .i64 0]) ∧ BusW n m w w' q S0) (hall : (trialB S0 xs).1 ≠ N) :
    Calls Try.prog 9 #[.agg #[.int .i64 c0, .int .i64 c1, .int .i64 c2, .int .i64 c3, .int .i64 c4, .int .i64 c5, .int .i64 c6], .slice Ai ki ci, .slice A N cN] W fun e w' => e = .returned (.tuple #[.slice none 0 0, .int .i64 16]) ∧ Chg [] W w' := by
  obtain ⟨n1, n2⟩ := one_new W (.cells #[.int .i64 c0, .int .i64 c1, .int .i64 c2, .int .i64 c3, .int .i64 c4, .int .i64 c5, .int .i64 c6] 23)
  have N2 := Lib.hid n2
  have HS := Lib.hid hs
  have HL := Lib.hid hl
  have OK := Lib.hid ok
  have HW := Lib.hid hnew
  have HA := Lib.hid hall
  clear n2 hs hl ok hnew hall
  go_enter Try.func9, Try.ntmps9
  go_upto_region 1 with fail
  generalize W.alloc (.cells #[.int .i64 c0, .int .i64 c1, .int .i64 c2, .int .i64 c3, .int .i64 c4, .int .i64 c5, .int .i64 c6] 23) = w1 at *
  generalize W.heap.size = p at *
  go_upto_region 2 with (go_at_call 16; refine (trialOf_ok (cN := cN) c0 c1 c2 c3 c4 c5 c6 Ai ki ci xs S0 OK.out w1 (HS.out.chg N2.out (by simp)) HL.out hN (fun w hw => HW.out w (N2.out.trans hw)) 16 (by rw [if_neg HA.out])).mono ?_; rintro e w2 ⟨t, q, r, rfl, h1, h2, h3⟩; have H1 := Lib.hid h1; have H2 := Lib.hid h2; have C2 := Lib.hid (N2.out.trans h2.all); clear h1 h2 h3)
  go_wp2_with fail
  go_ret2
  exact ⟨rfl, C2.out⟩
theorem ends_bad (c0 c1 c2 c3 c4 c5 c6 : Int) (Ai : Option Addr) (ki ci : Nat) (A : Option Addr) (N cN : Nat) (W : World)
    (hnew : ∀ w, Calls Try.prog 22 #[.agg #[.int .i64 c0, .int .i64 c1, .int .i64 c2, .int .i64 c3, .int .i64 c4, .int .i64 c5, .int .i64 c6], .slice Ai ki ci] w fun e w' => e = .returned (.tuple #[.pointer none, .int .i64 1]) ∧ Chg [] w w') :
    Calls Try.prog 9 #[.agg #[.int .i64 c0, .int .i64 c1, .int .i64 c2, .int .i64 c3, .int .i64 c4, .int .i64 c5, .int .i64 c6], .slice Ai ki ci, .slice A N cN] W fun e w' => e = .returned (.tuple #[.slice none 0 0, .int .i64 1]) ∧ Chg [] W w' := by
  obtain ⟨n1, n2⟩ := one_new W (.cells #[.int .i64 c0, .int .i64 c1, .int .i64 c2, .int .i64 c3, .int .i64 c4, .int .i64 c5, .int .i64 c6] 23)
  have N2 := Lib.hid n2
  have HW := Lib.hid hnew
  clear n2 hnew
  go_enter Try.func9, Try.ntmps9
  go_upto_region 1 with fail
  generalize W.alloc (.cells #[.int .i64 c0, .int .i64 c1, .int .i64 c2, .int .i64 c3, .int .i64 c4, .int .i64 c5, .int .i64 c6] 23) = w1 at *
  generalize W.heap.size = p at *
  go_upto_region 2 with (go_at_call 16; refine (trialOf_bad c0 c1 c2 c3 c4 c5 c6 Ai ki ci A N cN w1 HW.out).mono ?_; rintro e w2 ⟨t, rfl, h1, h2⟩; have C2 := Lib.hid (N2.out.trans h2); clear h1 h2)
  go_wp2_with fail
  go_ret2
  exact ⟨rfl, C2.out⟩
theorem keeps_ok {n m : Nat} (c0 c1 c2 c3 c4 c5 c6 : Int) (Ai : Option Addr) (ki ci : Nat) {A : Option Addr} {N cN : Nat} (xs : List Ev) (S0 : Bs) (ok : S0.Ok n m 0) (W : World) (hs : Sl W 5 A N (cat Ev.enc xs)) (hl : xs.length = N) (hN : N ≤ 500)
    (hnew : ∀ w, Chg [] W w → Calls Try.prog 22 #[.agg #[.int .i64 c0, .int .i64 c1, .int .i64 c2, .int .i64 c3, .int .i64 c4, .int .i64 c5, .int .i64 c6], .slice Ai ki ci] w fun e w' => ∃ q, e = .returned (.tuple #[.pointer (some ⟨q, 0, none⟩), .int .i64 0]) ∧ BusW n m w w' q S0) (hall : (trialB S0 xs).1 = N) :
    Calls Try.prog 10 #[.agg #[.int .i64 c0, .int .i64 c1, .int .i64 c2, .int .i64 c3, .int .i64 c4, .int .i64 c5, .int .i64 c6], .slice Ai ki ci, .slice A N cN] W fun e w' => ∃ g cap r, e = .returned (.tuple #[.slice (some ⟨g, 0, none⟩) n cap, .int .i64 0]) ∧ w'.heap[g]? = some (.cells (bk (trialB S0 xs).2.ks r) 44 (0, 0)) ∧ W.heap.size ≤ g ∧ n ≤ cap ∧ Chg [] W w' := by
  obtain ⟨n1, n2⟩ := one_new W (.cells #[.int .i64 c0, .int .i64 c1, .int .i64 c2, .int .i64 c3, .int .i64 c4, .int .i64 c5, .int .i64 c6] 23)
  have N2 := Lib.hid n2
  have HS := Lib.hid hs
  have HL := Lib.hid hl
  have OK := Lib.hid ok
  have HW := Lib.hid hnew
  have HA := Lib.hid hall
  clear n2 hs hl ok hnew hall
  go_enter Try.func10, Try.ntmps10
  go_upto_region 1 with fail
  generalize W.alloc (.cells #[.int .i64 c0, .int .i64 c1, .int .i64 c2, .int .i64 c3, .int .i64 c4, .int .i64 c5, .int .i64 c6] 23) = w1 at *
  generalize W.heap.size = p at *
  go_upto_region 2 with (go_at_call 16; refine (trialOf_ok (cN := cN) c0 c1 c2 c3 c4 c5 c6 Ai ki ci xs S0 OK.out w1 (HS.out.chg N2.out (by simp)) HL.out hN (fun w hw => HW.out w (N2.out.trans hw)) 0 (by rw [if_pos HA.out])).mono ?_; rintro e w2 ⟨t, q, r, rfl, h1, h2, h3⟩; have H1 := Lib.hid h1; have H2 := Lib.hid h2; have C2 := Lib.hid (N2.out.trans h2.all); clear h1 h2 h3)
  have hok := trialB_ok xs OK.out
  have HO := Lib.hid hok
  have ht := H1.out
  unfold TrialAt trc at ht
  clear hok n1
  go_wp2_with (go_at_call 21; refine (by { obtain ⟨F, g1, _⟩ := H2.out; exact bkept_ok g1 HO.out } : Calls Try.prog 21 _ _ (LinesOf _ n (trialB S0 xs).2.ks)).mono ?_; rintro e w3 ⟨g, cap, r3, rfl, kh, kg, kl, kd⟩)
  go_ret2
  exact ⟨g, cap, r3, rfl, kh, Nat.le_trans C2.out.size kg, kl, C2.out.trans kd⟩
theorem keeps_no {n m : Nat} (c0 c1 c2 c3 c4 c5 c6 : Int) (Ai : Option Addr) (ki ci : Nat) {A : Option Addr} {N cN : Nat} (xs : List Ev) (S0 : Bs) (ok : S0.Ok n m 0) (W : World) (hs : Sl W 5 A N (cat Ev.enc xs)) (hl : xs.length = N) (hN : N ≤ 500)
    (hnew : ∀ w, Chg [] W w → Calls Try.prog 22 #[.agg #[.int .i64 c0, .int .i64 c1, .int .i64 c2, .int .i64 c3, .int .i64 c4, .int .i64 c5, .int .i64 c6], .slice Ai ki ci] w fun e w' => ∃ q, e = .returned (.tuple #[.pointer (some ⟨q, 0, none⟩), .int .i64 0]) ∧ BusW n m w w' q S0) (hall : (trialB S0 xs).1 ≠ N) :
    Calls Try.prog 10 #[.agg #[.int .i64 c0, .int .i64 c1, .int .i64 c2, .int .i64 c3, .int .i64 c4, .int .i64 c5, .int .i64 c6], .slice Ai ki ci, .slice A N cN] W fun e w' => e = .returned (.tuple #[.slice none 0 0, .int .i64 16]) ∧ Chg [] W w' := by
  obtain ⟨n1, n2⟩ := one_new W (.cells #[.int .i64 c0, .int .i64 c1, .int .i64 c2, .int .i64 c3, .int .i64 c4, .int .i64 c5, .int .i64 c6] 23)
  have N2 := Lib.hid n2
  have HS := Lib.hid hs
  have HL := Lib.hid hl
  have OK := Lib.hid ok
  have HW := Lib.hid hnew
  have HA := Lib.hid hall
  clear n2 hs hl ok hnew hall
  go_enter Try.func10, Try.ntmps10
  go_upto_region 1 with fail
  generalize W.alloc (.cells #[.int .i64 c0, .int .i64 c1, .int .i64 c2, .int .i64 c3, .int .i64 c4, .int .i64 c5, .int .i64 c6] 23) = w1 at *
  generalize W.heap.size = p at *
  go_upto_region 2 with (go_at_call 16; refine (trialOf_ok (cN := cN) c0 c1 c2 c3 c4 c5 c6 Ai ki ci xs S0 OK.out w1 (HS.out.chg N2.out (by simp)) HL.out hN (fun w hw => HW.out w (N2.out.trans hw)) 16 (by rw [if_neg HA.out])).mono ?_; rintro e w2 ⟨t, q, r, rfl, h1, h2, h3⟩; have H1 := Lib.hid h1; have H2 := Lib.hid h2; have C2 := Lib.hid (N2.out.trans h2.all); clear h1 h2 h3)
  go_wp2_with fail
  go_ret2
  exact ⟨rfl, C2.out⟩
theorem keeps_bad (c0 c1 c2 c3 c4 c5 c6 : Int) (Ai : Option Addr) (ki ci : Nat) (A : Option Addr) (N cN : Nat) (W : World)
    (hnew : ∀ w, Calls Try.prog 22 #[.agg #[.int .i64 c0, .int .i64 c1, .int .i64 c2, .int .i64 c3, .int .i64 c4, .int .i64 c5, .int .i64 c6], .slice Ai ki ci] w fun e w' => e = .returned (.tuple #[.pointer none, .int .i64 1]) ∧ Chg [] w w') :
    Calls Try.prog 10 #[.agg #[.int .i64 c0, .int .i64 c1, .int .i64 c2, .int .i64 c3, .int .i64 c4, .int .i64 c5, .int .i64 c6], .slice Ai ki ci, .slice A N cN] W fun e w' => e = .returned (.tuple #[.slice none 0 0, .int .i64 1]) ∧ Chg [] W w' := by
  obtain ⟨n1, n2⟩ := one_new W (.cells #[.int .i64 c0, .int .i64 c1, .int .i64 c2, .int .i64 c3, .int .i64 c4, .int .i64 c5, .int .i64 c6] 23)
  have N2 := Lib.hid n2
  have HW := Lib.hid hnew
  clear n2 hnew
  go_enter Try.func10, Try.ntmps10
  go_upto_region 1 with fail
  generalize W.alloc (.cells #[.int .i64 c0, .int .i64 c1, .int .i64 c2, .int .i64 c3, .int .i64 c4, .int .i64 c5, .int .i64 c6] 23) = w1 at *
  generalize W.heap.size = p at *
  go_upto_region 2 with (go_at_call 16; refine (trialOf_bad c0 c1 c2 c3 c4 c5 c6 Ai ki ci A N cN w1 HW.out).mono ?_; rintro e w2 ⟨t, rfl, h1, h2⟩; have C2 := Lib.hid (N2.out.trans h2); clear h1 h2)
  go_wp2_with fail
  go_ret2
  exact ⟨rfl, C2.out⟩
end Go.Proofs.Ytnocekhgabgffaa
