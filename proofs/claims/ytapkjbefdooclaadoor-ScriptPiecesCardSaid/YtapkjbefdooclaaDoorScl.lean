/- Calls of package script on one act, and the document's: walked. No condition. -/
import Derived.Test.YtapkjbefdooclaaDoorScj
import Derived.Test.YtapkjbefdooclaaDoorOpen
import Derived.Test.YtapkjbefdooclaaDoorArgs
import Derived.Test.YtapkjbefdooclaaDoorChecked
import Derived.Laws.LoneSync
import Derived.Lib.SliceRun
import Derived.Deep.RegionHeld3
import Derived.Deep.RegionWith
import Derived.Laws.StructEq
import Derived.ChangeKeysEq
import Derived.BigQuiet
import Derived.BigRegion
import Derived.Deep.QuietTactic
namespace Go.Proofs.YtapkjbefdooclaaDoor
open Go.RowKit
set_option linter.unusedVariables false
set_option maxHeartbeats 1000000

set_option maxRecDepth 100000
attribute [local go_sem ↓] append_appS copy_copS clear_clrS make_mkS slice_slS index_ixS conv_cvS cell_row frozen_row loadAct storeAct heap_drew heap_drewN heap_alloc heap_past heap_setCell heap_putRow sac_kd sac_co sac_li act_eqIn
attribute [local go_sem] rowCell_some rowFrozen_some rowHas_some rowIn_some rowPart_full rowPart_lit rowPut_full rowPut_lit rowSet_some size_putRow wideAct run_loadS run_storeS run_appS run_copS run_clrS run_mkS run_slS run_ixS run_cvS loadW_at storeW_at fit_all fit_le one_int one_bool one_pointer one_slice allOne_list putRow_new ne_size1 ne_size2 ne_size3 ne_size4 sac_size sac_one fold_sac fold_sac2 str_size sac_lit sac_ne sac_set0 sac_set1 sac_set2
attribute [local simp ↓] heap_drew heap_drewN heap_alloc heap_past heap_setCell heap_putRow
attribute [local simp] rowCell_some rowFrozen_some rowHas_some rowIn_some rowPart_full rowPart_lit rowPut_full rowPut_lit rowSet_some size_putRow fit_all putRow_new ne_size1 ne_size2 ne_size3 ne_size4 sac_size
attribute [local go_sem ↓] cnf_c cnf_l index_ix5 loadCfg16
attribute [local go_sem] wideCfg16 str_add
theorem rndL_good {c l : Int} {i : Nat} {x : Sact} (h : (rndL c l)[i]? = some x) : gdA x = true := by
  unfold rndL at h
  cases hk : okR c l
  · rw [hk] at h; simp at h
  · obtain ⟨c', l', rfl, rfl, h1, h2, h3, h4⟩ := okR_nat hk
    rw [hk] at h
    simp only [if_true] at h
    have hi := (List.getElem?_eq_some_iff.1 h).1
    rw [rnds_length] at hi
    rw [rnd_get h]
    exact rnd_good h2 h4 hi
theorem rndL_apart {c l : Int} {i k : Nat} {x y : Sact} (hk : k < i) (h : (rndL c l)[i]? = some x) (h' : (rndL c l)[k]? = some y) : y ≠ x := by
  unfold rndL at h h'
  cases ho : okR c l
  · rw [ho] at h; simp at h
  · rw [ho] at h h'
    simp only [if_true] at h h'
    rw [rnd_get h, rnd_get h']
    exact rnd_apart hk
theorem kpieces_any (a b : List UInt8) (c l : Int) (r : List Int) (hr : r.length = 5) (W : World) (ht : KTab W) :
    Calls Tryd.prog 6 #[.string (str a), .string (str b), .agg (cnf c l r)] W fun e w' => e = .returned (.bool true) ∧ Chg [] W w' := by
  have hsz : (cnf c l r).size = 7 := by simp [cnf, hr]
  have r0 : (W.alloc (.cells (cnf c l r) 36)).heap[W.heap.size]? = some (.cells (cnf c l r) 36 (0, 0)) := by simp
  have C0 := Lib.hid ((Chg.refl [] W).alloc (.cells (cnf c l r) 36))
  have HT := Lib.hid (ht.keep C0.out (by simp))
  clear ht
  by_cases h1 : 3000 < strN a
  · have g1 : (3000 : Int) < (strN a : Int) := by omega
    go_enter Tryd.func6, Tryd.ntmps6
    try dsimp only [List.append]
    go_wp2_with fail
    refine (kwakes _ HT.out).mono ?_
    rintro e w1 ⟨rfl, c1⟩
    go_wp2_with fail
    go_ret
    exact ⟨rfl, C0.out.trans c1⟩
  have g1 : ¬ (3000 : Int) < (strN a : Int) := by omega
  by_cases h2 : 3000 < strN b
  · have g2 : (3000 : Int) < (strN b : Int) := by omega
    go_enter Tryd.func6, Tryd.ntmps6
    try dsimp only [List.append]
    go_wp2_with fail
    refine (kwakes _ HT.out).mono ?_
    rintro e w1 ⟨rfl, c1⟩
    go_wp2_with fail
    go_ret
    exact ⟨rfl, C0.out.trans c1⟩
  have g2 : ¬ (3000 : Int) < (strN b : Int) := by omega
  have HA := Lib.hid (show a.length ≤ 3000 by unfold strN at h1; omega)
  have HB := Lib.hid (show b.length ≤ 3000 by unfold strN at h2; omega)
  clear h1 h2
  have hsl := sl_to Tryd.underlying9 a (strN a / 3 * 3) (by unfold strN; omega)
  rw [show ((strN a / 3 * 3 : Nat) : Int) = (strN a : Int) / 3 * 3 by omega] at hsl
  have HAP := Lib.hid (show (a.take (strN a / 3 * 3)).length % 3 = 0 by rw [List.length_take]; unfold strN; omega)
  have HAL := Lib.hid (show (a.take (strN a / 3 * 3)).length ≤ 3000 by rw [List.length_take]; have := HA.out; omega)
  generalize a.take (strN a / 3 * 3) = ap at hsl HAP HAL
  have HP := Lib.hid (decL_append ap b HAP.out)
  have HLA := Lib.hid (show (decL ap).length ≤ 1000 by have := decL_len ap; have := HAL.out; omega)
  have HLB := Lib.hid (show (decL b).length ≤ 1000 by have := decL_len b; have := HB.out; omega)
  have ga : (strN ap : Int) ≤ 3000 := by have := HAL.out; unfold strN; omega
  have gb : (strN b : Int) ≤ 3000 := by omega
  go_enter Tryd.func6, Tryd.ntmps6
  try dsimp only [List.append]
  go_wp2_with fail
  clear hsl
  have hPn := Lib.hid (show Old (W.alloc (.cells (cnf c l r) 36)) W.heap.size from old r0)
  have hsz0 : (W.alloc (.cells (cnf c l r) 36)).heap.size = W.heap.size + 1 := by simp
  generalize W.heap.size = p at r0 hPn hsz0 ⊢
  generalize W.alloc (.cells (cnf c l r) 36) = w0 at r0 C0 HT hPn hsz0 ⊢
  have R0 := Lib.hid r0
  have ce := (Chg.refl [] w0).alloc (.cells #[] 31)
  have re : (w0.alloc (.cells #[] 31)).heap[w0.heap.size]? = some (.cells #[] 31 (0, 0)) := by simp
  have hQ := Lib.hid HT.out.old
  have hv0 : Vec 3 31 Sact.enc (w0.alloc (.cells #[] 31)) 0 w0.heap.size (some ⟨w0.heap.size, 0, none⟩) 0 [] := .inr ⟨by have := hQ.out.lt; omega, rfl, by simp, [], by rw [re]; simp [sq, cat_nil], by simp⟩
  rw [hsz0] at hv0
  have HZ0 := Lib.hid hsz0
  generalize w0.alloc (.cells #[] 31) = w1 at ce hv0 ⊢
  clear re r0 hsz0
  refine (sdecode_any ap _ (HT.out.keep ce (by simp)) (by have := HAL.out; omega)).mono ?_
  rintro e w2 ⟨A2, c2, b2, rfl, hv2, hb2, cc2⟩
  obtain ⟨b3, c3, A3, w3, happ, hv3, hb3, cc3, _⟩ := (hv0.keep cc2 (by simp)).app (ty := 22) eltAct ((hQ.out.chg ce).chg cc2) (hv2.sl Sact.len) (c := c2) rfl (by simp; have := HLA.out; omega) (by simp [maxLen]; have := HLA.out; omega)
  rw [List.nil_append] at hv3
  simp only [List.length_nil, Nat.zero_add] at happ
  have C1 := Lib.hid ce
  have C2 := Lib.hid (ce.trans cc2)
  have C3 := Lib.hid ((ce.trans cc2).trans' cc3 (by have := HZ0.out; simp; omega))
  have HV3 := Lib.hid hv3
  have HB3 := Lib.hid (show w0.heap.size ≤ b3 by
    rcases hb3 with h | h
    · rw [h, HZ0.out]; exact Nat.le_refl _
    · have := (ce.trans cc2).size; omega)
  clear hv0 hv2 hb2 hb3 cc2 cc3 ce hv3
  go_wp2_with fail
  clear happ
  refine (sdecode_any b _ (HT.out.keep C3.out (by simp)) (by have := HB.out; omega)).mono ?_
  rintro e w4 ⟨A4, c4, b4, rfl, hv4, hb4, cc4⟩
  obtain ⟨b5, c5, A5, w5, happ, hv5, hb5, cc5, _⟩ := (HV3.out.keep cc4 (by simp)).app (ty := 22) eltAct ((hQ.out.chg C3.out).chg cc4) (hv4.sl Sact.len) (c := c4) rfl (by have := HLA.out; have := HLB.out; omega) (by unfold maxLen; have := HLA.out; have := HLB.out; omega)
  have C4 := Lib.hid (C3.out.trans cc4)
  have C5 := Lib.hid ((C3.out.trans cc4).trans' cc5 (by have := HB3.out; simp; omega))
  have HV5 := Lib.hid (hv5.sl Sact.len)
  clear hv4 hb4 hb5 cc4 cc5 hv5 HV3
  have na : strN ap ≤ 3000 := HAL.out
  have nb : strN b ≤ 3000 := HB.out
  go_wp2_with fail
  clear happ
  refine (sdecode_any (ap ++ b) _ (HT.out.keep C5.out (by simp)) (by rw [List.length_append]; have := HB.out; have := HAL.out; omega)).mono ?_
  rintro e w6 ⟨A6, c6, b6, rfl, hv6, hb6, cc6⟩
  rw [HP.out] at hv6 ⊢
  have C6 := Lib.hid (C5.out.trans cc6)
  have HV5' := Lib.hid (HV5.out.chg cc6 (by simp))
  have HV6 := Lib.hid (hv6.sl Sact.len)
  clear hv6 hb6 cc6 HV5
  have hll : (decL ap ++ decL b).length = (decL ap).length + (decL b).length := List.length_append
  rw [hll] at HV5' HV6 ⊢
  have HLL := Lib.hid hll
  clear hll
  go_wp2_with fail
  refine (kacts_same _ HV6.out HV5'.out HLL.out HLL.out (by have := HLA.out; have := HLB.out; omega)).mono ?_
  rintro e w7 ⟨rfl, cc7⟩
  have C7 := Lib.hid (C6.out.trans cc7)
  have R7 := C7.out.keep R0.out (by simp)
  have o7 := old R7
  clear cc7 HV5' HV6 C6 C5
  go_wp2_with fail
  clear R7 o7
  refine (sround_any c l r 0 w7 (HT.out.keep C7.out (by simp)).old).mono ?_
  rintro e w8 ⟨A8, c8, b8, rfl, hv8, _, cc8⟩
  have C8 := Lib.hid (C7.out.trans cc8)
  have hs8 := hv8.sl Sact.len
  have hn168 := rnd_le c l
  obtain ⟨n, hn⟩ : ∃ n, (rndL c l).length = n := ⟨_, rfl⟩
  rw [hn] at hs8 hn168 ⊢
  have HN := Lib.hid hn
  have HS := Lib.hid hs8
  have gn : (n : Int) ≤ 168 := by omega
  clear hv8 cc8 hs8 hn hn168 C7 ga gb g1 g2 na nb
  go_wp2_with fail
  go_loopw [9] (fun i wr => ∃ k : Nat, k ≤ n ∧ i = .int .i64 k ∧ Chg [] w8 wr) (fun i _ => n - (intOf i).toNat)
  case atStart => exact ⟨0, by omega, rfl, Chg.refl _ _⟩
  case round =>
    obtain ⟨k, hk, rfl, hc⟩ := hrel
    have HC := Lib.hid hc
    have HK := Lib.hid hk
    clear hc hk
    by_cases hlt : k < n
    · obtain ⟨x, hx⟩ : ∃ x, (rndL c l)[k]? = some x := ⟨(rndL c l)[k]'(by rw [HN.out]; exact hlt), List.getElem?_eq_getElem _⟩
      have g3 : (k : Int) < (n : Int) := by omega
      have g0 : (0 : Int) ≤ (k : Int) := by omega
      obtain ⟨b0, o0, hA⟩ := HS.out.addr (by omega)
      subst hA
      obtain ⟨cA, tA, fA, hA, _, hpart⟩ := HS.out.elem (by omega) hlt (cat_part Sact.len hx)
      obtain ⟨hin, hpt⟩ := hpart 0 3 (by omega)
      have hAr := HC.out.keep hA (by simp)
      have oA := old hAr
      rw [Nat.add_zero] at hin hpt
      rw [show ((Sact.enc x).drop 0 |>.take 3).toArray = sac x from rfl] at hpt
      have HX := Lib.hid hx
      have HLT := Lib.hid hlt
      clear hx hlt hpart
      go_wp2_with fail
      refine (sgood_any x _ (HT.out.keep (C8.out.trans HC.out) (by simp))).mono ?_
      rintro e w9 ⟨rfl, c9⟩
      have C9 := Lib.hid (HC.out.trans c9)
      rw [rndL_good HX.out]
      clear hAr oA c9
      go_wp2_with fail
      go_loopw [10] (fun i wr => ∃ j : Nat, j ≤ k ∧ i = .int .i64 j ∧ Chg [] w8 wr) (fun i _ => k - (intOf i).toNat)
      case atStart => exact ⟨0, by omega, rfl, C9.out⟩
      case round =>
        obtain ⟨j, hj, rfl, hc⟩ := hrel
        have HC2 := Lib.hid hc
        have HJ := Lib.hid hj
        clear hc hj
        by_cases hjk : j < k
        · obtain ⟨y, hy⟩ : ∃ y, (rndL c l)[j]? = some y := ⟨(rndL c l)[j]'(by rw [HN.out]; have := HLT.out; omega), List.getElem?_eq_getElem _⟩
          have g4 : (j : Int) < (k : Int) := by omega
          have g5 : (0 : Int) ≤ (j : Int) := by omega
          obtain ⟨cB, tB, fB, hB, _, hpartB⟩ := HS.out.elem (by omega) (show j < n by have := HLT.out; omega) (cat_part Sact.len hy)
          obtain ⟨hinB, hptB⟩ := hpartB 0 3 (by omega)
          have e2 := hA.symm.trans hB
          injection e2 with e2
          injection e2 with e3 e4 e5
          subst e3 e4 e5
          rw [Nat.add_zero] at hinB hptB
          rw [show ((Sact.enc y).drop 0 |>.take 3).toArray = sac y from rfl] at hptB
          have hAr := HC2.out.keep hA (by simp)
          have oA := old hAr
          have tq : decide (y = x) = false := decide_eq_false (rndL_apart hjk HX.out hy)
          have g6 : (j : Int) < (n : Int) := by omega
          have HJK := Lib.hid hjk
          have HA' := Lib.hid hA
          clear hy hjk hpartB hB hA
          go_wp2_with fail
          go_quiet (fail)
          go_wp2_with fail
          refine ⟨⟨j + 1, HJK.out, by go_num, HC2.out.drewN _⟩, ?_⟩
          have := HJK.out
          simp [intOf]; omega
        · have : j = k := by have := HJ.out; omega
          subst this
          clear hjk
          go_wp2_with fail
          refine ⟨⟨j + 1, HLT.out, by go_num, HC2.out⟩, ?_⟩
          have := HLT.out
          simp [intOf]; omega
    · have : k = n := by have := HK.out; omega
      subst this
      have R9 := (C8.out.trans HC.out).keep R0.out (by simp)
      have o9 := old R9
      cases ho : okR c l
      · have h0 : k = 0 := by rw [← HN.out]; unfold rndL; rw [ho]; rfl
        subst h0
        clear hlt ho
        go_wp2_with (go_at_call 7; refine (kwakes _ (HT.out.keep (C8.out.trans HC.out) (by simp))).mono ?_; rintro e w9 ⟨rfl, cc9⟩)
        go_ret
        exact ⟨rfl, C0.out.trans ((C8.out.trans HC.out).trans cc9)⟩
      · obtain ⟨c', l', rfl, rfl, q1, q2, q3, q4⟩ := okR_nat ho
        have hk : k = 5 * c' + 2 * l' := by
          rw [← HN.out]
          unfold rndL
          rw [ho, if_pos rfl, rnds_length]
          simp
        have e1 : ((k : Int) == 0) = false := by simp; omega
        have e2 : ((k : Int) == 5 * (c' : Int) + 2 * (l' : Int)) = true := by simp; omega
        have q5 : (c' : Int) ≤ 8 := by omega
        have q6 : (l' : Int) ≤ 64 := by omega
        have q7 : (0 : Int) ≤ (c' : Int) := by omega
        have q8 : (0 : Int) ≤ (l' : Int) := by omega
        clear hlt ho hk q1 q2 q3 q4
        go_wp2_with (go_at_call 7; refine (kwakes _ (HT.out.keep (C8.out.trans HC.out) (by simp))).mono ?_; rintro e w9 ⟨rfl, cc9⟩)
        go_ret
        exact ⟨rfl, C0.out.trans ((C8.out.trans HC.out).trans cc9)⟩
end Go.Proofs.YtapkjbefdooclaaDoor
