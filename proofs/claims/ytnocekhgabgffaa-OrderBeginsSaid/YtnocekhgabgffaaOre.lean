/- OrderBegins: walked. No condition. -/
import Derived.Test.YtnocekhgabgffaaOrq
import Derived.Test.YtnocekhgabgffaaOrd
import Derived.Test.YtnocekhgabgffaaOrp
namespace Go.Proofs.Ytnocekhgabgffaa
open Go.RowKit
set_option linter.unusedVariables false
set_option maxHeartbeats 1000000

set_option maxRecDepth 100000
attribute [local go_sem ↓] append_appS copy_copS clear_clrS make_mkS slice_slS lookup_lookS mput_mputS del_mdelS cell_row frozen_row heap_drew heap_drewN heap_alloc heap_past heap_setCell heap_putRow heap_setB loadEv storeEv loadBe storeBe loadSp storeSp loadNw storeNw loadLine storeLine evc_kd evc_co evc_li evc_wo evc_va bec_fl bec_li bec_wo bec_va nwC_0 nwC_1 spC_0 spC_1
attribute [local go_sem] rowCell_some rowFrozen_some rowHas_some rowIn_some rowPart_full rowPart_lit rowPut_full rowPut_lit rowSet_some size_putRow size_setB run_loadS run_storeS run_appS run_copS run_clrS run_mkS run_slS run_lookS run_mputS run_mdelS loadW_at storeW_at fit_all fit_le one_int one_bool one_pointer one_slice allOne_list putRow_new ne_size1 ne_size2 ne_size3 ne_size4 wideEv wideBe wideSp wideNw wideLine evc_size evc_one evc_ne evc_lit evc_z fold_evc bec_size bec_one bec_lit bec_ne bec_at bec_in spC_size spC_one nwC_size nwC_one nwC_ne nwC_set0 nwC_set1 nwC_lit bec_set0 bec_set1 bec_set2 bec_set3 spC_set0 spC_set1 spC_lit fold_spC spC_ne fold_nwC fold_bec fold_at vs_size vs_one ic_size ic_get
attribute [local simp ↓] heap_drew heap_drewN heap_alloc heap_past heap_setCell heap_putRow heap_setB
attribute [local simp] rowCell_some rowFrozen_some rowHas_some rowIn_some rowPart_full rowPart_lit rowPut_full rowPut_lit rowSet_some size_putRow size_setB fit_all putRow_new ne_size1 ne_size2 ne_size3 ne_size4 evc_size bec_size spC_size nwC_size vs_size fit_le
attribute [local go_sem ↓] loadCf storeCf
attribute [local go_sem] wideCf
attribute [local go_sem ↓] evc_set0 evc_set1 evc_set2 evc_set3 evc_set4
attribute [local go_sem] evZ_kd evZ_co evZ_li evZ_wo evZ_va
set_option maxHeartbeats 4000000 in
theorem orderbegins_any (c0 c1 c2 c3 c4 c5 c6 : Int) {A : Option Addr} {N cN : Nat} (xs : List Ev) (kk : Int) (W : World) (hs : Sl W 5 A N (cat Ev.enc xs)) (hl : xs.length = N) (hN : N ≤ maxLen) (hcN : N ≤ cN) :
    Calls Try.prog 4 #[.agg #[.int .i64 c0, .int .i64 c1, .int .i64 c2, .int .i64 c3, .int .i64 c4, .int .i64 c5, .int .i64 c6], .slice A N cN, .int .i64 kk] W fun e w' => e = .returned (.bool true) ∧ Chg [] W w' := by
  unfold maxLen at hN
  obtain ⟨n1, n2⟩ := one_new W (.cells #[.int .i64 c0, .int .i64 c1, .int .i64 c2, .int .i64 c3, .int .i64 c4, .int .i64 c5, .int .i64 c6] 23)
  have N2 := Lib.hid n2
  have HS := Lib.hid (hs.chg n2 (by simp))
  have HL := Lib.hid hl
  clear n2 hs hl
  go_enter Try.func4, Try.ntmps4
  try dsimp only [List.append]
  go_upto_region 1 with fail
  generalize W.alloc (.cells #[.int .i64 c0, .int .i64 c1, .int .i64 c2, .int .i64 c3, .int .i64 c4, .int .i64 c5, .int .i64 c6] 23) = w1 at *
  generalize W.heap.size = p at *
  by_cases h300 : 300 < N
  · have t0 : (300 : Int) < (N : Int) := by omega
    go_wp2_with (go_at_call 6; refine (wakes18_any _).mono ?_; rintro r w6 ⟨rfl, c6⟩; have C6 := Lib.hid c6; clear c6)
    go_ret
    exact ⟨rfl, N2.out.trans C6.out⟩
  have hN3 : N ≤ 300 := by omega
  have t0 : ¬ (300 : Int) < (N : Int) := by omega
  go_upto_region 3 with fail
  clear t0 h300 hN
  have op := old n1
  have hE : (w1.alloc (.cells #[] 41)).drew.heap[w1.heap.size]? = some (.cells #[] 41 (0, 0)) := (MapKept.heap_alloc w1 _).1
  have cE : Chg [] w1 (w1.alloc (.cells #[] 41)).drew := ((Chg.refl [] w1).alloc _).drew
  obtain ⟨b2, p2, A2, w2, e2, v2, nn2, k2, _⟩ := clone18 (ty := 25) eltEv18 (c := cN) cE op hE (Nat.le_refl _) (HS.out.chg cE (by simp)) HL.out (by omega) (by unfold maxLen; omega)
  have S2 := Lib.hid (show Sl w2 5 A2 N (cat Ev.enc xs) by have := v2.sl Ev.len; rwa [HL.out] at this)
  have K2 := Lib.hid k2
  clear hE cE v2 nn2 k2
  cases hb : goodB c0 c1 c2 c3 c4 c5 c6 with
  | false =>
    have HB := Lib.hid hb
    clear hb
    go_region_held3 (fun w' => w'.heap[p]? = some (.cells #[.int .i64 c0, .int .i64 c1, .int .i64 c2, .int .i64 c3, .int .i64 c4, .int .i64 c5, .int .i64 c6] 23 (0, 0))) (first | exact n3 | exact n1 | exact K2.out.keep n1 List.not_mem_nil | (rw [heap_drew, heap_alloc, n1]; rfl) | (rw [heap_drew, n1]) | (rw [heap_alloc, n1]; rfl)) (first | (go_at_call 7; refine (check_bad c0 c1 c2 c3 c4 c5 c6 none 0 0 _ _ _ _ (fun w => bnew_bad none 0 0 c0 c1 c2 c3 c4 c5 c6 (.inl HB.out) w)).mono ?_; rintro e w3 ⟨rfl, c⟩; have C3 := Lib.hid ((N2.out.trans K2.out).trans c); have n3 := (K2.out.trans c).keep n1 List.not_mem_nil; clear c))
    all_goals
      go_wp2_with (go_at_call 6; refine (wakes18_any _).mono ?_; rintro r w6 ⟨rfl, c6⟩; have C6 := Lib.hid c6; clear c6)
      go_ret
      exact ⟨rfl, C3.out.trans C6.out⟩
  | true =>
    have hb' := of_decide_eq_true hb
    obtain ⟨a1, a2, a3, a4, a5, a6, _⟩ := hb'
    obtain ⟨m, rfl⟩ : ∃ m : Nat, c0 = m := ⟨c0.toNat, by omega⟩
    obtain ⟨n, rfl⟩ : ∃ n : Nat, c1 = n := ⟨c1.toNat, by omega⟩
    obtain ⟨v, rfl⟩ : ∃ v : Nat, c2 = v := ⟨c2.toNat, by omega⟩
    have OK := Lib.hid (bs0_ok (n := n) (m := m) (v := v) (by omega) (by omega) (by omega) (by omega))
    have HW := Lib.hid (fun (w : World) => new_w m n v c3 c4 c5 c6 hb w)
    clear hb a1 a2 a3 a4 a5 a6
    obtain ⟨a, ha⟩ : ∃ a : Nat, a = (trialB (bs0 n m v) xs).1 := ⟨_, rfl⟩
    obtain ⟨vd, hvd⟩ : ∃ vd : Int, vd = if a = N then 0 else 16 := ⟨_, rfl⟩
    have haN : a ≤ N := by rw [ha, ← HL.out]; exact trialB_le xs _
    have tv1 : (vd == 1) = false := by rw [hvd]; split <;> rfl
    obtain ⟨bb, hb1, hb2⟩ : ∃ bb : Bool, (vd == 0) = bb ∧ ((a : Int) == (N : Int)) = bb := by
      refine ⟨_, rfl, ?_⟩
      rw [hvd]
      by_cases h : a = N
      · rw [if_pos h, h]; simp
      · rw [if_neg h]; simp; omega
    have HA := Lib.hid ha
    have HVD := Lib.hid hvd
    have HAN := Lib.hid haN
    clear ha hvd
    go_region_held3 (fun w' => w'.heap[p]? = some (.cells #[.int .i64 m, .int .i64 n, .int .i64 v, .int .i64 c3, .int .i64 c4, .int .i64 c5, .int .i64 c6] 23 (0, 0))) (first | exact n3 | exact n1 | exact K2.out.keep n1 List.not_mem_nil | (rw [heap_drew, heap_alloc, n1]; rfl) | (rw [heap_drew, n1]) | (rw [heap_alloc, n1]; rfl)) (first | (go_at_call 7; refine (check_ok (n := n) (m := m) _ _ _ _ _ _ _ none 0 0 xs (bs0 n m v) OK.out _ S2.out HL.out (by omega) (fun w _ => HW.out w) vd (by rw [HVD.out, HA.out]) a (by rw [HA.out])).mono ?_; rintro e w3 ⟨rfl, c⟩; have C3 := Lib.hid ((N2.out.trans K2.out).trans c); have n3 := (K2.out.trans c).keep n1 List.not_mem_nil; have HS3 := Lib.hid (HS.out.chg (K2.out.trans c) (by simp)); clear c))
    clear n1 S2 K2 e2 op
    obtain ⟨k, hk⟩ : ∃ k : Nat, k = modn18 kk (a + 1) := ⟨_, rfl⟩
    have hka : k ≤ a := by have := modn18_lt kk (a + 1) (by omega); omega
    have hmod : ∀ w, Calls Try.prog 13 #[.int .i64 kk, .int .i64 ((a : Int) + 1)] w fun e w' => e = .returned (.int .i64 (k : Int)) ∧ w = w' := fun w => by
      have := mod18_ok kk (a + 1) (by omega) (by omega) w
      rwa [← hk, show ((a + 1 : Nat) : Int) = (a : Int) + 1 by omega] at this
    have HM := Lib.hid hmod
    have HKA := Lib.hid hka
    clear hmod hk
    go_upto_region 7 with (go_at_call 13; refine (HM.out _).mono ?_; rintro e w4 ⟨rfl, rfl⟩)
    clear HM
    have hsl := fun w => slE_to A N cN k (by omega) hcN w
    have op := old n3
    have hE : (w3.alloc (.cells #[] 41)).drew.heap[w3.heap.size]? = some (.cells #[] 41 (0, 0)) := (MapKept.heap_alloc w3 _).1
    have cE : Chg [] w3 (w3.alloc (.cells #[] 41)).drew := ((Chg.refl [] w3).alloc _).drew
    have hlk : (xs.take k).length = k := by rw [List.length_take, HL.out]; omega
    obtain ⟨b4, p4, A4, w4, e4, v4, nn4, k4, _⟩ := clone18 (ty := 25) eltEv18 (c := cN) cE op hE (Nat.le_refl _) ((HS3.out.takeE HL.out (k := k) (by omega)).chg cE (by simp)) hlk (by omega) (by unfold maxLen; omega)
    have S4 := Lib.hid (show Sl w4 5 A4 k (cat Ev.enc (xs.take k)) by have := v4.sl Ev.len; rwa [hlk] at this)
    have K4 := Lib.hid k4
    have HLK := Lib.hid hlk
    have htk : (trialB (bs0 n m v) (xs.take k)).1 = k := trialB_take xs _ k (by rw [← HA.out]; exact HKA.out)
    have HTK := Lib.hid htk
    clear hE cE v4 nn4 k4 hlk htk
    go_region_held3 (fun w' => w'.heap[p]? = some (.cells #[.int .i64 m, .int .i64 n, .int .i64 v, .int .i64 c3, .int .i64 c4, .int .i64 c5, .int .i64 c6] 23 (0, 0))) (first | exact n5 | exact n3 | exact K4.out.keep n3 List.not_mem_nil | (rw [heap_drew, heap_alloc, n3]; rfl) | (rw [heap_drew, n3]) | (rw [heap_alloc, n3]; rfl)) (first | (go_at_call 7; refine (check_ok (n := n) (m := m) _ _ _ _ _ _ _ none 0 0 (xs.take k) (bs0 n m v) OK.out _ S4.out HLK.out (by omega) (fun w _ => HW.out w) 0 (by rw [HTK.out, if_pos rfl]) k (by rw [HTK.out])).mono ?_; rintro e w5 ⟨rfl, c⟩; have C5 := Lib.hid (C3.out.trans (K4.out.trans c)); have n5 := (K4.out.trans c).keep n3 List.not_mem_nil; have HS5 := Lib.hid (HS3.out.chg (K4.out.trans c) (by simp)); clear c))
    clear n3 S4 K4 e4 op
    have tk : ((k : Int) != (k : Int)) = false := by simp
    go_upto_region 10 with fail
    have op := old n5
    have hE : (w5.alloc (.cells #[] 41)).heap[w5.heap.size]? = some (.cells #[] 41 (0, 0)) := (MapKept.heap_alloc w5 _).1
    have cE : Chg [] w5 (w5.alloc (.cells #[] 41)) := (Chg.refl [] w5).alloc _
    obtain ⟨b6, p6, A6, w6, e6, v6, nn6, k6, _⟩ := clone18 (ty := 25) eltEv18 (c := cN) cE op hE (Nat.le_refl _) ((HS5.out.takeE HL.out (k := k) (by omega)).chg cE (by simp)) HLK.out (by omega) (by unfold maxLen; omega)
    have c99 := (Chg.refl [] w6).alloc (.cells (evc ⟨99, 0, 0, 0, 0⟩) 41)
    have h99 : (w6.alloc (.cells (evc ⟨99, 0, 0, 0, 0⟩) 41)).heap[w6.heap.size]? = some (.cells (Ev.enc ⟨99, 0, 0, 0, 0⟩).toArray 41 (0, 0)) := (MapKept.heap_alloc w6 _).1
    obtain ⟨b7, p7, A7, w7, e7, v7, nn7, k7⟩ := snoc18 (ty := 25) eltEv18 (k6.trans c99) op (v6.keep c99 (by simp)) nn6 HLK.out h99 (by omega) (by unfold maxLen; omega)
    have hl7 : (xs.take k ++ [(⟨99, 0, 0, 0, 0⟩ : Ev)]).length = k + 1 := by rw [List.length_append, HLK.out]; rfl
    have S7 := Lib.hid (show Sl w7 5 A7 (k + 1) (cat Ev.enc (xs.take k ++ [⟨99, 0, 0, 0, 0⟩])) by have := v7.sl Ev.len; rwa [hl7] at this)
    have K7 := Lib.hid k7
    have HL7 := Lib.hid hl7
    have ht7 : (trialB (bs0 n m v) (xs.take k ++ [⟨99, 0, 0, 0, 0⟩])).1 = k := trialB_bad (by rw [← HA.out]; exact HKA.out) _ (fun T => do99 T 0 0 0 0)
    have HT7 := Lib.hid ht7
    clear hE cE v6 nn6 k6 c99 h99 v7 nn7 k7 hl7 ht7
    go_upto_region 11 with fail
    have n7 := K7.out.keep n5 List.not_mem_nil
    clear n5 HS5 e6 e7 op hsl
    go_upto_region 12 with (go_at_call 7; refine (check_ok (n := n) (m := m) _ _ _ _ _ _ _ none 0 0 (xs.take k ++ [⟨99, 0, 0, 0, 0⟩]) (bs0 n m v) OK.out _ S7.out HL7.out (by omega) (fun w _ => HW.out w) 16 (by rw [HT7.out, if_neg (by omega)]) k (by rw [HT7.out])).mono ?_; rintro e w8 ⟨rfl, c⟩; have C8 := Lib.hid ((C5.out.trans K7.out).trans c); clear c)
    cases bb
    · have hb3 := hb1
      go_wp2_with (go_at_call 6; refine (wakes18_any _).mono ?_; rintro r w9 ⟨rfl, c6⟩; have C6 := Lib.hid c6; clear c6)
      go_ret
      exact ⟨rfl, C8.out.trans C6.out⟩
    · have hb3 := hb1
      go_wp2_with (go_at_call 6; refine (wakes18_any _).mono ?_; rintro r w9 ⟨rfl, c6⟩; have C6 := Lib.hid c6; clear c6)
      go_ret
      exact ⟨rfl, C8.out.trans C6.out⟩
end Go.Proofs.Ytnocekhgabgffaa
