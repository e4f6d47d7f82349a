/- Texts of the walk, one behind the other: Org. No condition. -/
import Derived.Test.YtnocekhgabgffaaOCac
import Derived.Test.YtnocekhgabgffaaOCaj
import Derived.Test.YtnocekhgabgffaaOCal
section
namespace Go.Proofs.Ytnocekhgabgffaa
open Go.RowKit
set_option linter.unusedVariables false
set_option maxHeartbeats 1000000

set_option maxRecDepth 100000
attribute [local go_sem ↓] append_appS copy_copS clear_clrS make_mkS slice_slS lookup_lookS mput_mputS del_mdelS cell_row frozen_row heap_drew heap_drewN heap_alloc heap_past heap_setCell heap_putRow heap_setB loadEv storeEv loadBe storeBe loadSp storeSp loadNw storeNw loadLine storeLine evc_kd evc_co evc_li evc_wo evc_va bec_fl bec_li bec_wo bec_va nwC_0 nwC_1 spC_0 spC_1
attribute [local go_sem] rowCell_some rowFrozen_some rowHas_some rowIn_some rowPart_full rowPart_lit rowPut_full rowPut_lit rowSet_some size_putRow size_setB run_loadS run_storeS run_appS run_copS run_clrS run_mkS run_slS run_lookS run_mputS run_mdelS loadW_at storeW_at fit_all fit_le one_int one_bool one_pointer one_slice allOne_list putRow_new ne_size1 ne_size2 ne_size3 ne_size4 wideEv wideBe wideSp wideNw wideLine evc_size evc_one evc_ne evc_lit evc_z fold_evc bec_size bec_one bec_lit bec_ne bec_at bec_in spC_size spC_one nwC_size nwC_one nwC_ne nwC_set0 nwC_set1 nwC_lit bec_set0 bec_set1 bec_set2 bec_set3 spC_set0 spC_set1 spC_lit fold_spC spC_ne fold_nwC fold_bec fold_at vs_size vs_one ic_size ic_get
attribute [local simp ↓] heap_drew heap_drewN heap_alloc heap_past heap_setCell heap_putRow heap_setB
attribute [local simp] rowCell_some rowFrozen_some rowHas_some rowIn_some rowPart_full rowPart_lit rowPut_full rowPut_lit rowSet_some size_putRow size_setB fit_all putRow_new ne_size1 ne_size2 ne_size3 ne_size4 evc_size bec_size spC_size nwC_size vs_size fit_le
attribute [local go_sem ↓] loadIt storeIt loadSn storeSn loadPl storePl loadCf storeCf loadCk storeCk
attribute [local go_sem] wideIt wideSn widePl wideCf lit8 wideCk ckc_size ckc_one
attribute [local simp] ckc_size
theorem bs1_ok {n m v : Nat} {X : List Int} (h0 : 0 < n) (h64 : n ≤ 64) (hm : m ≤ 8) (hv : v ≤ n) (hX : X.length = n * 8) : (bs1 n m v X).Ok n m 0 :=
  ⟨h0, h64, hm, hv, hX, hX, by simp [bs1], by simp [bs1], fun p hp => by have := List.eq_of_mem_replicate hp; subst this; simp, fun c hc => by have := List.eq_of_mem_replicate hc; subst this; exact bcZ_small 0⟩
theorem org_big (c0 c1 c2 c3 c4 c5 c6 : Int) {Ai : Option Addr} {ki ci : Nat} (img : List Int) {A : Option Addr} {N cN : Nat} (xs : List Ev) (W : World) (hi : Sl W 8 Ai ki (img.map (Value.int .u64))) (hs : Sl W 5 A N (cat Ev.enc xs)) (hl : xs.length = N) (hb : 400 < N ∨ 100 < ki) (hNm : N ≤ maxLen) (hkm : ki ≤ maxLen) :
    Calls Try.prog 3 #[.agg #[.int .i64 c0, .int .i64 c1, .int .i64 c2, .int .i64 c3, .int .i64 c4, .int .i64 c5, .int .i64 c6], .slice Ai ki ci, .slice A N cN] W fun e w' => e = .returned (.bool true) ∧ Chg [] W w' := by
  unfold maxLen at hNm hkm
  obtain ⟨n1, n2⟩ := one_new W (.cells #[.int .i64 c0, .int .i64 c1, .int .i64 c2, .int .i64 c3, .int .i64 c4, .int .i64 c5, .int .i64 c6] 23)
  have N2 := Lib.hid n2
  have HS := Lib.hid (hs.chg n2 (by simp))
  have HI := Lib.hid (hi.chg n2 (by simp))
  have HL := Lib.hid hl
  clear n2 hs hl hi
  go_enter Try.func3, Try.ntmps3
  try dsimp only [List.append]
  go_upto_region 1 with fail
  generalize W.alloc (.cells #[.int .i64 c0, .int .i64 c1, .int .i64 c2, .int .i64 c3, .int .i64 c4, .int .i64 c5, .int .i64 c6] 23) = w1 at *
  generalize W.heap.size = p at *
  by_cases h4 : 400 < N
  · have t0 : (400 : Int) < (N : Int) := by omega
    have CC := N2
    go_wp2_with (go_at_call 6; refine (wakes18_any _).mono ?_; rintro r w6 ⟨rfl, c6⟩; have C6 := Lib.hid (CC.out.trans c6); clear c6)
    go_ret
    exact ⟨rfl, C6.out⟩
  · have t0 : ¬ (400 : Int) < (N : Int) := by omega
    have t1 : (100 : Int) < (ki : Int) := by omega
    have CC := N2
    go_wp2_with (go_at_call 6; refine (wakes18_any _).mono ?_; rintro r w6 ⟨rfl, c6⟩; have C6 := Lib.hid (CC.out.trans c6); clear c6)
    go_ret
    exact ⟨rfl, C6.out⟩
theorem org_bad (c0 c1 c2 c3 c4 c5 c6 : Int) {Ai : Option Addr} {ki ci : Nat} (img : List Int) {A : Option Addr} {N cN : Nat} (xs : List Ev) (W : World) (hi : Sl W 8 Ai ki (img.map (Value.int .u64))) (hs : Sl W 5 A N (cat Ev.enc xs)) (hl : xs.length = N) (hN : N ≤ 400) (hk1 : ki ≤ 100) (hg : goodB c0 c1 c2 c3 c4 c5 c6 = false ∨ (goodB c0 c1 c2 c3 c4 c5 c6 = true ∧ ki ≠ 0 ∧ (ki : Int) ≠ c1)) :
    Calls Try.prog 3 #[.agg #[.int .i64 c0, .int .i64 c1, .int .i64 c2, .int .i64 c3, .int .i64 c4, .int .i64 c5, .int .i64 c6], .slice Ai ki ci, .slice A N cN] W fun e w' => e = .returned (.bool true) ∧ Chg [] W w' := by
  have HG := Lib.hid hg
  clear hg
  obtain ⟨n1, n2⟩ := one_new W (.cells #[.int .i64 c0, .int .i64 c1, .int .i64 c2, .int .i64 c3, .int .i64 c4, .int .i64 c5, .int .i64 c6] 23)
  have N2 := Lib.hid n2
  have HS := Lib.hid (hs.chg n2 (by simp))
  have HI := Lib.hid (hi.chg n2 (by simp))
  have HL := Lib.hid hl
  clear n2 hs hl hi
  go_enter Try.func3, Try.ntmps3
  try dsimp only [List.append]
  go_upto_region 1 with fail
  generalize W.alloc (.cells #[.int .i64 c0, .int .i64 c1, .int .i64 c2, .int .i64 c3, .int .i64 c4, .int .i64 c5, .int .i64 c6] 23) = w1 at *
  generalize W.heap.size = p at *
  have t0 : ¬ (400 : Int) < (N : Int) := by omega
  have t1 : ¬ (100 : Int) < (ki : Int) := by omega
  go_upto_region 3 with fail
  clear t0 t1
  have op := old n1
  have hE : (w1.alloc (.cells #[] 41)).heap[w1.heap.size]? = some (.cells #[] 41 (0, 0)) := (MapKept.heap_alloc w1 _).1
  have cE : Chg [] w1 (w1.alloc (.cells #[] 41)) := (Chg.refl [] w1).alloc _
  obtain ⟨b2, p2, A2, w2, e2, v2, nn2, k2, _⟩ := clone18 (ty := 25) eltEv18 (c := cN) cE op hE (Nat.le_refl _) (HS.out.chg cE (by simp)) HL.out (by omega) (by unfold maxLen; omega)
  have S2 := Lib.hid (show Sl w2 5 A2 N (cat Ev.enc xs) by have := v2.sl Ev.len; rwa [HL.out] at this)
  have n2 := k2.keep n1 List.not_mem_nil
  have HI0 := HI
  have HS0 := HS
  clear HI HS
  have HI := Lib.hid (HI0.out.chg k2 (by simp))
  have HS := Lib.hid (HS0.out.chg k2 (by simp))
  have CW := Lib.hid (N2.out.trans k2)
  clear hE cE v2 nn2 k2 op HI0 HS0 N2
  go_upto_region 4 with fail
  clear e2 n1
  obtain ⟨g, cp, r, wc, ec, hgc, hgec, kc⟩ := clone_any w2.drew Ai ki ci img (HI.out.chg ((Chg.refl [] w2).drew) (by simp)) (by omega)
  have ec' : appR Try.prog 24 24 #[.slice (some ⟨w2.heap.size, 0, none⟩) 0 0, .slice Ai ki ci] (w2.alloc (.cells #[] 44)).drew = .ok (.slice (some ⟨g, 0, none⟩) ki cp) wc := ec
  have KC := Lib.hid (show Chg [] w2 wc from ((Chg.refl [] w2).drew).trans kc)
  have SC := Lib.hid (S2.out.chg KC.out (by simp))
  have GC := Lib.hid hgc
  clear ec kc hgc hgec
  go_upto_region 4 with fail
  go_region_held3 (fun w' => w'.heap[p]? = some (.cells #[.int .i64 c0, .int .i64 c1, .int .i64 c2, .int .i64 c3, .int .i64 c4, .int .i64 c5, .int .i64 c6] 23 (0, 0))) (first | exact n5 | exact n2 | exact KC.out.keep n2 List.not_mem_nil | (rw [heap_drew, heap_alloc, n2]; rfl) | (rw [heap_drew, n2]) | (rw [heap_alloc, n2]; rfl)) (first | (go_at_call 7; refine (check_bad c0 c1 c2 c3 c4 c5 c6 _ _ _ _ _ _ _ (fun w => bnew_bad _ _ _ c0 c1 c2 c3 c4 c5 c6 HG.out w)).mono ?_; rintro e w5 ⟨rfl, c⟩; have n5 := (KC.out.trans c).keep n2 List.not_mem_nil; have HI' := Lib.hid (HI.out.chg (KC.out.trans c) (by simp)); have HS' := Lib.hid (HS.out.chg (KC.out.trans c) (by simp)); have S2' := Lib.hid (S2.out.chg (KC.out.trans c) (by simp)); have CW' := Lib.hid (CW.out.trans (KC.out.trans c)); skip; clear c))
  clear n2 ec' SC GC KC HI HS S2 CW
  have HI := HI'
  have HS := HS'
  have S2 := S2'
  have CW := CW'
  clear HI' HS' S2' CW'
  go_upto_region 6 with (go_at_call 8; refine (rcheck_bad c0 c1 c2 c3 c4 c5 c6 Ai ki ci A N cN HG.out w5).mono ?_; rintro e w6 ⟨rfl, c⟩; have n6 := c.keep n5 List.not_mem_nil; have HI' := Lib.hid (HI.out.chg c (by simp)); have HS' := Lib.hid (HS.out.chg c (by simp)); have S2' := Lib.hid (S2.out.chg c (by simp)); have CW' := Lib.hid (CW.out.trans c); clear c)
  clear n5 HI HS S2 CW
  obtain ⟨m7, m8⟩ := one_new w6 (.cells (ckc 0 1 none 0 0 none 0 0) 31)
  generalize w6.alloc (.cells (ckc 0 1 none 0 0 none 0 0) 31) = w7 at *
  generalize w6.heap.size = rb at *
  have n7 := m8.keep n6 List.not_mem_nil
  have HI := Lib.hid (HI'.out.chg m8 (by simp))
  have HS := Lib.hid (HS'.out.chg m8 (by simp))
  have S2 := Lib.hid (S2'.out.chg m8 (by simp))
  have CW := Lib.hid (CW'.out.trans m8)
  clear HI' HS' S2' CW' m8 n6
  obtain ⟨g, cp, r, wc, ec, hgc, hgec, kc⟩ := clone_any w7.drew Ai ki ci img (HI.out.chg ((Chg.refl [] w7).drew) (by simp)) (by omega)
  have ec' : appR Try.prog 24 24 #[.slice (some ⟨w7.heap.size, 0, none⟩) 0 0, .slice Ai ki ci] (w7.alloc (.cells #[] 44)).drew = .ok (.slice (some ⟨g, 0, none⟩) ki cp) wc := ec
  have KC := Lib.hid (show Chg [] w7 wc from ((Chg.refl [] w7).drew).trans kc)
  have SC := Lib.hid (S2.out.chg KC.out (by simp))
  have GC := Lib.hid hgc
  clear ec kc hgc hgec
  go_upto_region 6 with fail
  go_region_held3 (fun w' => w'.heap[p]? = some (.cells #[.int .i64 c0, .int .i64 c1, .int .i64 c2, .int .i64 c3, .int .i64 c4, .int .i64 c5, .int .i64 c6] 23 (0, 0))) (first | exact n9 | exact n7 | exact KC.out.keep n7 List.not_mem_nil | (rw [heap_drew, heap_alloc, n7]; rfl) | (rw [heap_drew, n7]) | (rw [heap_alloc, n7]; rfl)) (first | (go_at_call 9; refine (ends_bad c0 c1 c2 c3 c4 c5 c6 _ _ _ _ _ _ _ (fun w => bnew_bad _ _ _ c0 c1 c2 c3 c4 c5 c6 HG.out w)).mono ?_; rintro e w9 ⟨rfl, c⟩; have n9 := (KC.out.trans c).keep n7 List.not_mem_nil; have HI' := Lib.hid (HI.out.chg (KC.out.trans c) (by simp)); have HS' := Lib.hid (HS.out.chg (KC.out.trans c) (by simp)); have S2' := Lib.hid (S2.out.chg (KC.out.trans c) (by simp)); have CW' := Lib.hid (CW.out.trans (KC.out.trans c)); have m9 := (KC.out.trans c).keep m7 List.not_mem_nil; clear c))
  clear n7 ec' SC GC KC HI HS S2 CW
  have HI := HI'
  have HS := HS'
  have S2 := S2'
  have CW := CW'
  clear HI' HS' S2' CW'
  clear m7
  obtain ⟨g, cp, r, wc, ec, hgc, hgec, kc⟩ := clone_any w9.drew Ai ki ci img (HI.out.chg ((Chg.refl [] w9).drew) (by simp)) (by omega)
  have ec' : appR Try.prog 24 24 #[.slice (some ⟨w9.heap.size, 0, none⟩) 0 0, .slice Ai ki ci] (w9.alloc (.cells #[] 44)).drew = .ok (.slice (some ⟨g, 0, none⟩) ki cp) wc := ec
  have KC := Lib.hid (show Chg [] w9 wc from ((Chg.refl [] w9).drew).trans kc)
  have SC := Lib.hid (S2.out.chg KC.out (by simp))
  have GC := Lib.hid hgc
  clear ec kc hgc hgec
  go_upto_region 7 with fail
  go_region_held3 (fun w' => w'.heap[p]? = some (.cells #[.int .i64 c0, .int .i64 c1, .int .i64 c2, .int .i64 c3, .int .i64 c4, .int .i64 c5, .int .i64 c6] 23 (0, 0))) (first | exact n12 | exact n9 | exact KC.out.keep n9 List.not_mem_nil | (rw [heap_drew, heap_alloc, n9]; rfl) | (rw [heap_drew, n9]) | (rw [heap_alloc, n9]; rfl)) (first | (go_at_call 10; refine (keeps_bad c0 c1 c2 c3 c4 c5 c6 _ _ _ _ _ _ _ (fun w => bnew_bad _ _ _ c0 c1 c2 c3 c4 c5 c6 HG.out w)).mono ?_; rintro e w12 ⟨rfl, c⟩; have n12 := (KC.out.trans c).keep n9 List.not_mem_nil; have HI' := Lib.hid (HI.out.chg (KC.out.trans c) (by simp)); have HS' := Lib.hid (HS.out.chg (KC.out.trans c) (by simp)); have S2' := Lib.hid (S2.out.chg (KC.out.trans c) (by simp)); have CW' := Lib.hid (CW.out.trans (KC.out.trans c)); have m12 := (KC.out.trans c).keep m9 List.not_mem_nil; clear c))
  clear n9 ec' SC GC KC HI HS S2 CW
  have HI := HI'
  have HS := HS'
  have S2 := S2'
  have CW := CW'
  clear HI' HS' S2' CW'
  clear m9
  unfold ckc at m12
  have t5 := Lib.hid (Chg.refl [] w12)
  go_wp2_with (first | (go_at_call 11; refine (lines_nil18 _).mono ?_; rintro e w13 ⟨rfl, c⟩; have CV := Lib.hid (t5.out.trans c); have m13 := c.keep m12 List.not_mem_nil; clear c) | (go_at_call 11; refine (lines_nil18 _).mono ?_; rintro e w14 ⟨rfl, c⟩; have CX := Lib.hid (CV.out.trans c); have m14 := c.keep m13 List.not_mem_nil; clear c) | (go_at_call 12; refine (events_same xs _ (S2.out.chg CX.out (by simp)) (HS.out.chg CX.out (by simp)) HL.out (by omega)).mono ?_; rintro e w15 ⟨rfl, c⟩; have CC := Lib.hid (CX.out.trans c); clear c) | (go_at_call 6; refine (wakes18_any _).mono ?_; rintro r w16 ⟨rfl, c6⟩; have CF := Lib.hid (CC.out.trans c6); clear c6))
  go_ret
  exact ⟨rfl, CW.out.trans CF.out⟩
set_option maxHeartbeats 4000000 in
theorem org_some (m n v : Nat) (c3 c4 c5 c6 : Int) {Ai : Option Addr} {ki ci : Nat} (img : List Int) {A : Option Addr} {N cN : Nat} (xs : List Ev) (W : World) (hi : Sl W 8 Ai ki (img.map (Value.int .u64))) (hs : Sl W 5 A N (cat Ev.enc xs)) (hl : xs.length = N) (hN : N ≤ 400) (hk1 : ki ≤ 100) (hg : goodB m n v c3 c4 c5 c6 = true) (hk : ki = 0 ∨ ki = n) (hne : (trialB (bs1 n m v (imgX n v img)) xs).1 ≠ N) :
    Calls Try.prog 3 #[.agg #[.int .i64 m, .int .i64 n, .int .i64 v, .int .i64 c3, .int .i64 c4, .int .i64 c5, .int .i64 c6], .slice Ai ki ci, .slice A N cN] W fun e w' => e = .returned (.bool true) ∧ Chg [] W w' := by
  have hb' := of_decide_eq_true hg
  obtain ⟨a1, a2, a3, a4, a5, a6, _⟩ := hb'
  have HNB := Lib.hid (newB_any hg hk img)
  have HND := Lib.hid (newD_any hg hk img)
  have hil : img.length = ki * 8 := by simpa using hi.1
  have HIL := Lib.hid hil
  have hXl : (imgX n v img).length = n * 8 := imgX_len (by rw [hil]; rcases hk with rfl | rfl <;> omega) (by omega)
  have OK := Lib.hid (bs1_ok (n := n) (m := m) (v := v) (by omega) (by omega) (by omega) (by omega) hXl)
  have OKR := Lib.hid (rb1_ok (z := ⟨m, n, v, c3, c4, c5, c6⟩) (X := imgX n v img) (by show 0 < n; omega) (by show n ≤ 64; omega) (by show m ≤ 8; omega) (by show v ≤ n; omega) hXl)
  have hsim := trial_sim xs OK.out (sim_new (n := n) (m := m) (v := v) (X := imgX n v img) (fun l hl' => by rw [ln_imgX hil hk (by omega) (by omega), if_neg (by omega)]))
  have HSM := Lib.hid hsim.2
  have hs1 := hsim.1
  clear hsim hXl hil hg hk
  obtain ⟨a, ha⟩ : ∃ a : Nat, a = (trialB (bs1 n m v (imgX n v img)) xs).1 := ⟨_, rfl⟩
  have haN : a ≤ N := by rw [ha, ← hl]; exact trialB_le xs _
  have HTB := Lib.hid hne
  have HV := Lib.hid (show (16 : Int) = if (trialB (bs1 n m v (imgX n v img)) xs).1 = N then 0 else 16 by rw [if_neg hne])
  have HT := Lib.hid (show (a : Int) = ((trialB (bs1 n m v (imgX n v img)) xs).1 : Int) by rw [ha])
  have HTR := Lib.hid (show (trialR (rb1 n m v (imgX n v img)) xs).1 ≠ N by rw [hs1]; exact hne)
  have HAR := Lib.hid (show (trialR (rb1 n m v (imgX n v img)) xs).1 = a by rw [hs1, ha])
  clear hne ha hs1
  obtain ⟨n1, n2⟩ := one_new W (.cells #[.int .i64 m, .int .i64 n, .int .i64 v, .int .i64 c3, .int .i64 c4, .int .i64 c5, .int .i64 c6] 23)
  have N2 := Lib.hid n2
  have HS := Lib.hid (hs.chg n2 (by simp))
  have HI := Lib.hid (hi.chg n2 (by simp))
  have HL := Lib.hid hl
  clear n2 hs hl hi
  go_enter Try.func3, Try.ntmps3
  try dsimp only [List.append]
  go_upto_region 1 with fail
  generalize W.alloc (.cells #[.int .i64 m, .int .i64 n, .int .i64 v, .int .i64 c3, .int .i64 c4, .int .i64 c5, .int .i64 c6] 23) = w1 at *
  generalize W.heap.size = p at *
  have t0 : ¬ (400 : Int) < (N : Int) := by omega
  have t1 : ¬ (100 : Int) < (ki : Int) := by omega
  go_upto_region 3 with fail
  clear t0 t1
  have op := old n1
  have hE : (w1.alloc (.cells #[] 41)).heap[w1.heap.size]? = some (.cells #[] 41 (0, 0)) := (MapKept.heap_alloc w1 _).1
  have cE : Chg [] w1 (w1.alloc (.cells #[] 41)) := (Chg.refl [] w1).alloc _
  obtain ⟨b2, p2, A2, w2, e2, v2, nn2, k2, _⟩ := clone18 (ty := 25) eltEv18 (c := cN) cE op hE (Nat.le_refl _) (HS.out.chg cE (by simp)) HL.out (by omega) (by unfold maxLen; omega)
  have S2 := Lib.hid (show Sl w2 5 A2 N (cat Ev.enc xs) by have := v2.sl Ev.len; rwa [HL.out] at this)
  have n2 := k2.keep n1 List.not_mem_nil
  have HI0 := HI
  have HS0 := HS
  clear HI HS
  have HI := Lib.hid (HI0.out.chg k2 (by simp))
  have HS := Lib.hid (HS0.out.chg k2 (by simp))
  have CW := Lib.hid (N2.out.trans k2)
  clear hE cE v2 nn2 k2 op HI0 HS0 N2
  go_upto_region 4 with fail
  clear e2 n1
  obtain ⟨g, cp, r, wc, ec, hgc, hgec, kc⟩ := clone_any w2.drew Ai ki ci img (HI.out.chg ((Chg.refl [] w2).drew) (by simp)) (by omega)
  have ec' : appR Try.prog 24 24 #[.slice (some ⟨w2.heap.size, 0, none⟩) 0 0, .slice Ai ki ci] (w2.alloc (.cells #[] 44)).drew = .ok (.slice (some ⟨g, 0, none⟩) ki cp) wc := ec
  have KC := Lib.hid (show Chg [] w2 wc from ((Chg.refl [] w2).drew).trans kc)
  have SC := Lib.hid (S2.out.chg KC.out (by simp))
  have GC := Lib.hid hgc
  clear ec kc hgc hgec
  go_upto_region 4 with fail
  go_region_held3 (fun w' => w'.heap[p]? = some (.cells #[.int .i64 m, .int .i64 n, .int .i64 v, .int .i64 c3, .int .i64 c4, .int .i64 c5, .int .i64 c6] 23 (0, 0))) (first | exact n5 | exact n2 | exact KC.out.keep n2 List.not_mem_nil | (rw [heap_drew, heap_alloc, n2]; rfl) | (rw [heap_drew, n2]) | (rw [heap_alloc, n2]; rfl)) (first | (go_at_call 7; refine (check_ok (n := n) (m := m) _ _ _ _ _ _ _ _ _ _ xs (bs1 n m v (imgX n v img)) OK.out _ SC.out HL.out (by omega) (fun w hw => HNB.out _ _ w (Sl.of_bk (hw.keep GC.out List.not_mem_nil) HIL.out)) 16 HV.out a HT.out).mono ?_; rintro e w5 ⟨rfl, c⟩; have n5 := (KC.out.trans c).keep n2 List.not_mem_nil; have HI' := Lib.hid (HI.out.chg (KC.out.trans c) (by simp)); have HS' := Lib.hid (HS.out.chg (KC.out.trans c) (by simp)); have S2' := Lib.hid (S2.out.chg (KC.out.trans c) (by simp)); have CW' := Lib.hid (CW.out.trans (KC.out.trans c)); skip; clear c))
  clear n2 ec' SC GC KC HI HS S2 CW
  have HI := HI'
  have HS := HS'
  have S2 := S2'
  have CW := CW'
  clear HI' HS' S2' CW'
  go_upto_region 6 with (go_at_call 8; refine (rcheck_ok _ _ _ _ _ _ _ Ai ki ci xs (rb1 n m v (imgX n v img)) OKR.out w5 HS.out HL.out (by omega) (fun w hw => HND.out Ai ci w (HI.out.chg hw (by simp)))).mono ?_; rintro e w6 h6; have c := h6.2.2; have he := h6.1 HTR.out; rw [HAR.out] at he; subst he; have n6 := c.keep n5 List.not_mem_nil; have HI' := Lib.hid (HI.out.chg c (by simp)); have HS' := Lib.hid (HS.out.chg c (by simp)); have S2' := Lib.hid (S2.out.chg c (by simp)); have CW' := Lib.hid (CW.out.trans c); clear c)
  clear n5 HI HS S2 CW
  obtain ⟨m7, m8⟩ := one_new w6 (.cells (ckc a 16 none 0 0 none 0 0) 31)
  generalize w6.alloc (.cells (ckc a 16 none 0 0 none 0 0) 31) = w7 at *
  generalize w6.heap.size = rb at *
  have n7 := m8.keep n6 List.not_mem_nil
  have HI := Lib.hid (HI'.out.chg m8 (by simp))
  have HS := Lib.hid (HS'.out.chg m8 (by simp))
  have S2 := Lib.hid (S2'.out.chg m8 (by simp))
  have CW := Lib.hid (CW'.out.trans m8)
  clear HI' HS' S2' CW' m8 n6
  obtain ⟨g, cp, r, wc, ec, hgc, hgec, kc⟩ := clone_any w7.drew Ai ki ci img (HI.out.chg ((Chg.refl [] w7).drew) (by simp)) (by omega)
  have ec' : appR Try.prog 24 24 #[.slice (some ⟨w7.heap.size, 0, none⟩) 0 0, .slice Ai ki ci] (w7.alloc (.cells #[] 44)).drew = .ok (.slice (some ⟨g, 0, none⟩) ki cp) wc := ec
  have KC := Lib.hid (show Chg [] w7 wc from ((Chg.refl [] w7).drew).trans kc)
  have SC := Lib.hid (S2.out.chg KC.out (by simp))
  have GC := Lib.hid hgc
  clear ec kc hgc hgec
  go_upto_region 6 with fail
  go_region_held3 (fun w' => w'.heap[p]? = some (.cells #[.int .i64 m, .int .i64 n, .int .i64 v, .int .i64 c3, .int .i64 c4, .int .i64 c5, .int .i64 c6] 23 (0, 0))) (first | exact n9 | exact n7 | exact KC.out.keep n7 List.not_mem_nil | (rw [heap_drew, heap_alloc, n7]; rfl) | (rw [heap_drew, n7]) | (rw [heap_alloc, n7]; rfl)) (first | (go_at_call 9; refine (ends_no (n := n) (m := m) _ _ _ _ _ _ _ _ _ _ xs (bs1 n m v (imgX n v img)) OK.out _ SC.out HL.out (by omega) (fun w hw => HNB.out _ _ w (Sl.of_bk (hw.keep GC.out List.not_mem_nil) HIL.out)) HTB.out).mono ?_; rintro e w9 ⟨rfl, c⟩; have n9 := (KC.out.trans c).keep n7 List.not_mem_nil; have HI' := Lib.hid (HI.out.chg (KC.out.trans c) (by simp)); have HS' := Lib.hid (HS.out.chg (KC.out.trans c) (by simp)); have S2' := Lib.hid (S2.out.chg (KC.out.trans c) (by simp)); have CW' := Lib.hid (CW.out.trans (KC.out.trans c)); have m9 := (KC.out.trans c).keep m7 List.not_mem_nil; clear c))
  clear n7 ec' SC GC KC HI HS S2 CW
  have HI := HI'
  have HS := HS'
  have S2 := S2'
  have CW := CW'
  clear HI' HS' S2' CW'
  clear m7
  obtain ⟨g, cp, r, wc, ec, hgc, hgec, kc⟩ := clone_any w9.drew Ai ki ci img (HI.out.chg ((Chg.refl [] w9).drew) (by simp)) (by omega)
  have ec' : appR Try.prog 24 24 #[.slice (some ⟨w9.heap.size, 0, none⟩) 0 0, .slice Ai ki ci] (w9.alloc (.cells #[] 44)).drew = .ok (.slice (some ⟨g, 0, none⟩) ki cp) wc := ec
  have KC := Lib.hid (show Chg [] w9 wc from ((Chg.refl [] w9).drew).trans kc)
  have SC := Lib.hid (S2.out.chg KC.out (by simp))
  have GC := Lib.hid hgc
  clear ec kc hgc hgec
  go_upto_region 7 with fail
  go_region_held3 (fun w' => w'.heap[p]? = some (.cells #[.int .i64 m, .int .i64 n, .int .i64 v, .int .i64 c3, .int .i64 c4, .int .i64 c5, .int .i64 c6] 23 (0, 0))) (first | exact n12 | exact n9 | exact KC.out.keep n9 List.not_mem_nil | (rw [heap_drew, heap_alloc, n9]; rfl) | (rw [heap_drew, n9]) | (rw [heap_alloc, n9]; rfl)) (first | (go_at_call 10; refine (keeps_no (n := n) (m := m) _ _ _ _ _ _ _ _ _ _ xs (bs1 n m v (imgX n v img)) OK.out _ SC.out HL.out (by omega) (fun w hw => HNB.out _ _ w (Sl.of_bk (hw.keep GC.out List.not_mem_nil) HIL.out)) HTB.out).mono ?_; rintro e w12 ⟨rfl, c⟩; have n12 := (KC.out.trans c).keep n9 List.not_mem_nil; have HI' := Lib.hid (HI.out.chg (KC.out.trans c) (by simp)); have HS' := Lib.hid (HS.out.chg (KC.out.trans c) (by simp)); have S2' := Lib.hid (S2.out.chg (KC.out.trans c) (by simp)); have CW' := Lib.hid (CW.out.trans (KC.out.trans c)); have m12 := (KC.out.trans c).keep m9 List.not_mem_nil; clear c))
  clear n9 ec' SC GC KC HI HS S2 CW
  have HI := HI'
  have HS := HS'
  have S2 := S2'
  have CW := CW'
  clear HI' HS' S2' CW'
  clear m9
  unfold ckc at m12
  have t5 := Lib.hid (Chg.refl [] w12)
  go_wp2_with (first | (go_at_call 11; refine (lines_nil18 _).mono ?_; rintro e w13 ⟨rfl, c⟩; have CV := Lib.hid (t5.out.trans c); have m13 := c.keep m12 List.not_mem_nil; clear c) | (go_at_call 11; refine (lines_nil18 _).mono ?_; rintro e w14 ⟨rfl, c⟩; have CX := Lib.hid (CV.out.trans c); have m14 := c.keep m13 List.not_mem_nil; clear c) | (go_at_call 12; refine (events_same xs _ (S2.out.chg CX.out (by simp)) (HS.out.chg CX.out (by simp)) HL.out (by omega)).mono ?_; rintro e w15 ⟨rfl, c⟩; have CC := Lib.hid (CX.out.trans c); clear c) | (go_at_call 6; refine (wakes18_any _).mono ?_; rintro r w16 ⟨rfl, c6⟩; have CF := Lib.hid (CC.out.trans c6); clear c6))
  go_ret
  exact ⟨rfl, CW.out.trans CF.out⟩
set_option maxHeartbeats 4000000 in
theorem org_all (m n v : Nat) (c3 c4 c5 c6 : Int) {Ai : Option Addr} {ki ci : Nat} (img : List Int) {A : Option Addr} {N cN : Nat} (xs : List Ev) (W : World) (hi : Sl W 8 Ai ki (img.map (Value.int .u64))) (hs : Sl W 5 A N (cat Ev.enc xs)) (hl : xs.length = N) (hN : N ≤ 400) (hk1 : ki ≤ 100) (hg : goodB m n v c3 c4 c5 c6 = true) (hk : ki = 0 ∨ ki = n) (hne : (trialB (bs1 n m v (imgX n v img)) xs).1 = N) :
    Calls Try.prog 3 #[.agg #[.int .i64 m, .int .i64 n, .int .i64 v, .int .i64 c3, .int .i64 c4, .int .i64 c5, .int .i64 c6], .slice Ai ki ci, .slice A N cN] W fun e w' => e = .returned (.bool true) ∧ Chg [] W w' := by
  have hb' := of_decide_eq_true hg
  obtain ⟨a1, a2, a3, a4, a5, a6, _⟩ := hb'
  have HNB := Lib.hid (newB_any hg hk img)
  have HND := Lib.hid (newD_any hg hk img)
  have hil : img.length = ki * 8 := by simpa using hi.1
  have HIL := Lib.hid hil
  have hXl : (imgX n v img).length = n * 8 := imgX_len (by rw [hil]; rcases hk with rfl | rfl <;> omega) (by omega)
  have OK := Lib.hid (bs1_ok (n := n) (m := m) (v := v) (by omega) (by omega) (by omega) (by omega) hXl)
  have OKR := Lib.hid (rb1_ok (z := ⟨m, n, v, c3, c4, c5, c6⟩) (X := imgX n v img) (by show 0 < n; omega) (by show n ≤ 64; omega) (by show m ≤ 8; omega) (by show v ≤ n; omega) hXl)
  have hsim := trial_sim xs OK.out (sim_new (n := n) (m := m) (v := v) (X := imgX n v img) (fun l hl' => by rw [ln_imgX hil hk (by omega) (by omega), if_neg (by omega)]))
  have HSM := Lib.hid hsim.2
  have hs1 := hsim.1
  clear hsim hXl hil hg hk
  have HTB := Lib.hid hne
  have HV := Lib.hid (show (0 : Int) = if (trialB (bs1 n m v (imgX n v img)) xs).1 = N then 0 else 16 by rw [if_pos hne])
  have HT := Lib.hid (show (N : Int) = ((trialB (bs1 n m v (imgX n v img)) xs).1 : Int) by rw [hne])
  have HTR := Lib.hid (show (trialR (rb1 n m v (imgX n v img)) xs).1 = N by rw [hs1]; exact hne)
  clear hne hs1
  obtain ⟨n1, n2⟩ := one_new W (.cells #[.int .i64 m, .int .i64 n, .int .i64 v, .int .i64 c3, .int .i64 c4, .int .i64 c5, .int .i64 c6] 23)
  have N2 := Lib.hid n2
  have HS := Lib.hid (hs.chg n2 (by simp))
  have HI := Lib.hid (hi.chg n2 (by simp))
  have HL := Lib.hid hl
  clear n2 hs hl hi
  go_enter Try.func3, Try.ntmps3
  try dsimp only [List.append]
  go_upto_region 1 with fail
  generalize W.alloc (.cells #[.int .i64 m, .int .i64 n, .int .i64 v, .int .i64 c3, .int .i64 c4, .int .i64 c5, .int .i64 c6] 23) = w1 at *
  generalize W.heap.size = p at *
  have t0 : ¬ (400 : Int) < (N : Int) := by omega
  have t1 : ¬ (100 : Int) < (ki : Int) := by omega
  go_upto_region 3 with fail
  clear t0 t1
  have op := old n1
  have hE : (w1.alloc (.cells #[] 41)).heap[w1.heap.size]? = some (.cells #[] 41 (0, 0)) := (MapKept.heap_alloc w1 _).1
  have cE : Chg [] w1 (w1.alloc (.cells #[] 41)) := (Chg.refl [] w1).alloc _
  obtain ⟨b2, p2, A2, w2, e2, v2, nn2, k2, _⟩ := clone18 (ty := 25) eltEv18 (c := cN) cE op hE (Nat.le_refl _) (HS.out.chg cE (by simp)) HL.out (by omega) (by unfold maxLen; omega)
  have S2 := Lib.hid (show Sl w2 5 A2 N (cat Ev.enc xs) by have := v2.sl Ev.len; rwa [HL.out] at this)
  have n2 := k2.keep n1 List.not_mem_nil
  have HI0 := HI
  have HS0 := HS
  clear HI HS
  have HI := Lib.hid (HI0.out.chg k2 (by simp))
  have HS := Lib.hid (HS0.out.chg k2 (by simp))
  have CW := Lib.hid (N2.out.trans k2)
  clear hE cE v2 nn2 k2 op HI0 HS0 N2
  go_upto_region 4 with fail
  clear e2 n1
  obtain ⟨g, cp, r, wc, ec, hgc, hgec, kc⟩ := clone_any w2.drew Ai ki ci img (HI.out.chg ((Chg.refl [] w2).drew) (by simp)) (by omega)
  have ec' : appR Try.prog 24 24 #[.slice (some ⟨w2.heap.size, 0, none⟩) 0 0, .slice Ai ki ci] (w2.alloc (.cells #[] 44)).drew = .ok (.slice (some ⟨g, 0, none⟩) ki cp) wc := ec
  have KC := Lib.hid (show Chg [] w2 wc from ((Chg.refl [] w2).drew).trans kc)
  have SC := Lib.hid (S2.out.chg KC.out (by simp))
  have GC := Lib.hid hgc
  clear ec kc hgc hgec
  go_upto_region 4 with fail
  go_region_held3 (fun w' => w'.heap[p]? = some (.cells #[.int .i64 m, .int .i64 n, .int .i64 v, .int .i64 c3, .int .i64 c4, .int .i64 c5, .int .i64 c6] 23 (0, 0))) (first | exact n5 | exact n2 | exact KC.out.keep n2 List.not_mem_nil | (rw [heap_drew, heap_alloc, n2]; rfl) | (rw [heap_drew, n2]) | (rw [heap_alloc, n2]; rfl)) (first | (go_at_call 7; refine (check_ok (n := n) (m := m) _ _ _ _ _ _ _ _ _ _ xs (bs1 n m v (imgX n v img)) OK.out _ SC.out HL.out (by omega) (fun w hw => HNB.out _ _ w (Sl.of_bk (hw.keep GC.out List.not_mem_nil) HIL.out)) 0 HV.out N HT.out).mono ?_; rintro e w5 ⟨rfl, c⟩; have n5 := (KC.out.trans c).keep n2 List.not_mem_nil; have HI' := Lib.hid (HI.out.chg (KC.out.trans c) (by simp)); have HS' := Lib.hid (HS.out.chg (KC.out.trans c) (by simp)); have S2' := Lib.hid (S2.out.chg (KC.out.trans c) (by simp)); have CW' := Lib.hid (CW.out.trans (KC.out.trans c)); skip; clear c))
  clear n2 ec' SC GC KC HI HS S2 CW
  have HI := HI'
  have HS := HS'
  have S2 := S2'
  have CW := CW'
  clear HI' HS' S2' CW'
  go_upto_region 6 with (go_at_call 8; refine (rcheck_ok _ _ _ _ _ _ _ Ai ki ci xs (rb1 n m v (imgX n v img)) OKR.out w5 HS.out HL.out (by omega) (fun w hw => HND.out Ai ci w (HI.out.chg hw (by simp)))).mono ?_; rintro e w6 h6; have c := h6.2.2; obtain ⟨bl, kb, ck, rk, rfl, hbl, hbk, hll, hlk⟩ := h6.2.1 HTR.out; have n6 := c.keep n5 List.not_mem_nil; have HI' := Lib.hid (HI.out.chg c (by simp)); have HS' := Lib.hid (HS.out.chg c (by simp)); have S2' := Lib.hid (S2.out.chg c (by simp)); have CW' := Lib.hid (CW.out.trans c); have HB := Lib.hid (And.intro hbl (And.intro hbk (And.intro hll hlk))); clear hbl hbk hll hlk; clear c)
  clear n5 HI HS S2 CW
  obtain ⟨m7, m8⟩ := one_new w6 (.cells (ckc N 0 (some ⟨bl, 0, none⟩) n n (some ⟨kb, 0, none⟩) n ck) 31)
  generalize w6.alloc (.cells (ckc N 0 (some ⟨bl, 0, none⟩) n n (some ⟨kb, 0, none⟩) n ck) 31) = w7 at *
  generalize w6.heap.size = rb at *
  have n7 := m8.keep n6 List.not_mem_nil
  have HI := Lib.hid (HI'.out.chg m8 (by simp))
  have HS := Lib.hid (HS'.out.chg m8 (by simp))
  have S2 := Lib.hid (S2'.out.chg m8 (by simp))
  have CW := Lib.hid (CW'.out.trans m8)
  have HL1 := Lib.hid (m8.keep HB.out.1 List.not_mem_nil)
  have HK1 := Lib.hid (m8.keep HB.out.2.1 List.not_mem_nil)
  clear HI' HS' S2' CW' m8 n6
  obtain ⟨g, cp, r, wc, ec, hgc, hgec, kc⟩ := clone_any w7.drew Ai ki ci img (HI.out.chg ((Chg.refl [] w7).drew) (by simp)) (by omega)
  have ec' : appR Try.prog 24 24 #[.slice (some ⟨w7.heap.size, 0, none⟩) 0 0, .slice Ai ki ci] (w7.alloc (.cells #[] 44)).drew = .ok (.slice (some ⟨g, 0, none⟩) ki cp) wc := ec
  have KC := Lib.hid (show Chg [] w7 wc from ((Chg.refl [] w7).drew).trans kc)
  have SC := Lib.hid (S2.out.chg KC.out (by simp))
  have GC := Lib.hid hgc
  clear ec kc hgc hgec
  go_upto_region 6 with fail
  go_region_held3 (fun w' => w'.heap[p]? = some (.cells #[.int .i64 m, .int .i64 n, .int .i64 v, .int .i64 c3, .int .i64 c4, .int .i64 c5, .int .i64 c6] 23 (0, 0))) (first | exact n9 | exact n7 | exact KC.out.keep n7 List.not_mem_nil | (rw [heap_drew, heap_alloc, n7]; rfl) | (rw [heap_drew, n7]) | (rw [heap_alloc, n7]; rfl)) (first | (go_at_call 9; refine (ends_ok (n := n) (m := m) _ _ _ _ _ _ _ _ _ _ xs (bs1 n m v (imgX n v img)) OK.out _ SC.out HL.out (by omega) (fun w hw => HNB.out _ _ w (Sl.of_bk (hw.keep GC.out List.not_mem_nil) HIL.out)) HTB.out).mono ?_; rintro e w9 ⟨g5, p5, r5, rfl, h5, _, hp5, c⟩; have n9 := (KC.out.trans c).keep n7 List.not_mem_nil; have HI' := Lib.hid (HI.out.chg (KC.out.trans c) (by simp)); have HS' := Lib.hid (HS.out.chg (KC.out.trans c) (by simp)); have S2' := Lib.hid (S2.out.chg (KC.out.trans c) (by simp)); have CW' := Lib.hid (CW.out.trans (KC.out.trans c)); have m9 := (KC.out.trans c).keep m7 List.not_mem_nil; have HL2 := Lib.hid ((KC.out.trans c).keep HL1.out List.not_mem_nil); have HK2 := Lib.hid ((KC.out.trans c).keep HK1.out List.not_mem_nil); have E5 := Lib.hid h5; clear h5; clear c))
  clear n7 ec' SC GC KC HI HS S2 CW
  have HI := HI'
  have HS := HS'
  have S2 := S2'
  have CW := CW'
  clear HI' HS' S2' CW'
  clear m7
  obtain ⟨g, cp, r, wc, ec, hgc, hgec, kc⟩ := clone_any w9.drew Ai ki ci img (HI.out.chg ((Chg.refl [] w9).drew) (by simp)) (by omega)
  have ec' : appR Try.prog 24 24 #[.slice (some ⟨w9.heap.size, 0, none⟩) 0 0, .slice Ai ki ci] (w9.alloc (.cells #[] 44)).drew = .ok (.slice (some ⟨g, 0, none⟩) ki cp) wc := ec
  have KC := Lib.hid (show Chg [] w9 wc from ((Chg.refl [] w9).drew).trans kc)
  have SC := Lib.hid (S2.out.chg KC.out (by simp))
  have GC := Lib.hid hgc
  clear ec kc hgc hgec
  go_upto_region 7 with fail
  go_region_held3 (fun w' => w'.heap[p]? = some (.cells #[.int .i64 m, .int .i64 n, .int .i64 v, .int .i64 c3, .int .i64 c4, .int .i64 c5, .int .i64 c6] 23 (0, 0))) (first | exact n12 | exact n9 | exact KC.out.keep n9 List.not_mem_nil | (rw [heap_drew, heap_alloc, n9]; rfl) | (rw [heap_drew, n9]) | (rw [heap_alloc, n9]; rfl)) (first | (go_at_call 10; refine (keeps_ok (n := n) (m := m) _ _ _ _ _ _ _ _ _ _ xs (bs1 n m v (imgX n v img)) OK.out _ SC.out HL.out (by omega) (fun w hw => HNB.out _ _ w (Sl.of_bk (hw.keep GC.out List.not_mem_nil) HIL.out)) HTB.out).mono ?_; rintro e w12 ⟨g6, p6, r6, rfl, h6, _, hp6, c⟩; have n12 := (KC.out.trans c).keep n9 List.not_mem_nil; have HI' := Lib.hid (HI.out.chg (KC.out.trans c) (by simp)); have HS' := Lib.hid (HS.out.chg (KC.out.trans c) (by simp)); have S2' := Lib.hid (S2.out.chg (KC.out.trans c) (by simp)); have CW' := Lib.hid (CW.out.trans (KC.out.trans c)); have m12 := (KC.out.trans c).keep m9 List.not_mem_nil; have HL3 := Lib.hid ((KC.out.trans c).keep HL2.out List.not_mem_nil); have HK3 := Lib.hid ((KC.out.trans c).keep HK2.out List.not_mem_nil); have E6 := Lib.hid h6; have E5' := Lib.hid ((KC.out.trans c).keep E5.out List.not_mem_nil); clear h6; clear c))
  clear n9 ec' SC GC KC HI HS S2 CW
  have HI := HI'
  have HS := HS'
  have S2 := S2'
  have CW := CW'
  clear HI' HS' S2' CW'
  clear m9
  unfold ckc at m12
  have SL := Lib.hid (show Sl w12 8 (some ⟨bl, 0, none⟩) n ((trialB (bs1 n m v (imgX n v img)) xs).2.ls.map (Value.int .u64)) by rw [← HSM.out.ls]; exact Sl.of_bk HL3.out HB.out.2.2.1)
  have SK := Lib.hid (show Sl w12 8 (some ⟨kb, 0, none⟩) n ((trialB (bs1 n m v (imgX n v img)) xs).2.ks.map (Value.int .u64)) by rw [← HSM.out.ks]; exact Sl.of_bk HK3.out HB.out.2.2.2)
  have SL' := Lib.hid (show Sl w12 8 (some ⟨g5, 0, none⟩) n ((trialB (bs1 n m v (imgX n v img)) xs).2.ls.map (Value.int .u64)) from Sl.of_bk E5'.out (by rw [← HSM.out.ls]; exact HB.out.2.2.1))
  have SK' := Lib.hid (show Sl w12 8 (some ⟨g6, 0, none⟩) n ((trialB (bs1 n m v (imgX n v img)) xs).2.ks.map (Value.int .u64)) from Sl.of_bk E6.out (by rw [← HSM.out.ks]; exact HB.out.2.2.2))
  go_wp2_with (first | (go_at_call 11; (with_reducible refine (lines_same g5 0 bl 0 n p5 n _ _ SL'.out SL.out (by omega)).mono ?_); rintro e w13 ⟨rfl, c⟩; have CV := Lib.hid c; have m13 := c.keep m12 List.not_mem_nil; clear c) | (go_at_call 11; (with_reducible refine (lines_same g6 0 kb 0 n p6 ck _ _ (SK'.out.chg CV.out (by simp)) (SK.out.chg CV.out (by simp)) (by omega)).mono ?_); rintro e w14 ⟨rfl, c⟩; have CX := Lib.hid (CV.out.trans c); have m14 := c.keep m13 List.not_mem_nil; clear c) | (go_at_call 12; refine (events_same xs _ (S2.out.chg CX.out (by simp)) (HS.out.chg CX.out (by simp)) HL.out (by omega)).mono ?_; rintro e w15 ⟨rfl, c⟩; have CC := Lib.hid (CX.out.trans c); clear c) | (go_at_call 6; refine (wakes18_any _).mono ?_; rintro r w16 ⟨rfl, c6⟩; have CF := Lib.hid (CC.out.trans c6); clear c6))
  go_ret
  exact ⟨rfl, CW.out.trans CF.out⟩
theorem orderchecks_any (c0 c1 c2 c3 c4 c5 c6 : Int) {Ai : Option Addr} {ki ci : Nat} (img : List Int) {A : Option Addr} {N cN : Nat} (xs : List Ev) (W : World) (hi : Sl W 8 Ai ki (img.map (Value.int .u64))) (hs : Sl W 5 A N (cat Ev.enc xs)) (hl : xs.length = N) (hNm : N ≤ maxLen) (hkm : ki ≤ maxLen) :
    Calls Try.prog 3 #[.agg #[.int .i64 c0, .int .i64 c1, .int .i64 c2, .int .i64 c3, .int .i64 c4, .int .i64 c5, .int .i64 c6], .slice Ai ki ci, .slice A N cN] W fun e w' => e = .returned (.bool true) ∧ Chg [] W w' := by
  by_cases hbig : 400 < N ∨ 100 < ki
  · exact org_big c0 c1 c2 c3 c4 c5 c6 img xs W hi hs hl hbig hNm hkm
  have hN : N ≤ 400 := by omega
  have hk1 : ki ≤ 100 := by omega
  cases hg : goodB c0 c1 c2 c3 c4 c5 c6 with
  | false => exact org_bad c0 c1 c2 c3 c4 c5 c6 img xs W hi hs hl hN hk1 (.inl hg)
  | true =>
    have hb' := of_decide_eq_true hg
    obtain ⟨a1, a2, a3, a4, a5, a6, _⟩ := hb'
    obtain ⟨m, rfl⟩ : ∃ m : Nat, c0 = m := ⟨c0.toNat, by omega⟩
    obtain ⟨n, rfl⟩ : ∃ n : Nat, c1 = n := ⟨c1.toNat, by omega⟩
    obtain ⟨v, rfl⟩ : ∃ v : Nat, c2 = v := ⟨c2.toNat, by omega⟩
    by_cases hk : ki = 0 ∨ ki = n
    · by_cases hne : (trialB (bs1 n m v (imgX n v img)) xs).1 = N
      · exact org_all m n v c3 c4 c5 c6 img xs W hi hs hl hN hk1 hg hk hne
      · exact org_some m n v c3 c4 c5 c6 img xs W hi hs hl hN hk1 hg hk hne
    · exact org_bad m n v c3 c4 c5 c6 img xs W hi hs hl hN hk1 (.inr ⟨hg, by omega, by omega⟩)
end Go.Proofs.Ytnocekhgabgffaa
end
