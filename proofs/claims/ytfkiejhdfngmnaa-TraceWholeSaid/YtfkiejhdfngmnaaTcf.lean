/- TraceOf: walked. No condition. -/
import Derived.Test.YtfkiejhdfngmnaaTce
import Derived.Test.YtfkiejhdfngmnaaChecked
import Derived.Laws.LoneSync
import Derived.Lib.SliceRun
import Derived.Deep.RegionHeld3
import Derived.Deep.RegionWith
import Derived.Laws.StructEq
import Derived.ChangeKeysEq
import Derived.BigQuiet
import Derived.BigRegion
import Derived.Deep.QuietTactic
import Derived.WalkKit
import Derived.Deep.Cut
import Derived.Deep.CutBlock
import Derived.Deep.CutRange
import Derived.Deep.DeepCutAuto
import Derived.Deep.RegionLaw
namespace Go.Proofs.Ytfkiejhdfngmnaa
open Go.RowKit
set_option linter.unusedVariables false
set_option maxHeartbeats 1000000

set_option maxRecDepth 100000
attribute [local go_sem ↓] append_appS copy_copS clear_clrS make_mkS cell_row frozen_row heap_drew heap_drewN heap_alloc heap_past heap_setCell heap_putRow loadEv storeEv evc_kd evc_co evc_li evc_wo evc_va
attribute [local go_sem] rowCell_some rowFrozen_some rowHas_some rowIn_some rowPart_full rowPart_lit rowPut_full rowPut_lit rowSet_some size_putRow run_loadS run_storeS run_appS run_copS run_clrS run_mkS loadW_at storeW_at fit_all fit_le one_int one_bool one_pointer one_slice allOne_list putRow_new ne_size1 ne_size2 ne_size3 ne_size4 wideEv evc_size evc_one evc_ne evc_lit evc_z evc_set0 evc_set1 evc_set2 evc_set3 evc_set4 evZ_kd evZ_co evZ_li evZ_wo evZ_va fold_evc
attribute [local simp ↓] heap_drew heap_drewN heap_alloc heap_past heap_setCell heap_putRow
attribute [local simp] rowCell_some rowFrozen_some rowHas_some rowIn_some rowPart_full rowPart_lit rowPut_full rowPut_lit rowSet_some size_putRow fit_all putRow_new ne_size1 ne_size2 ne_size3 ne_size4 evc_size fit_le
attribute [local go_sem ↓] ev_eqIn
/-! ### TraceOf -/
theorem ev_at {w : World} {b o n k : Nat} {x : Ev} {xs : List Ev} (h : Sl w 5 (some ⟨b, o, none⟩) n (cat Ev.enc xs)) (hk : k < n) (hx : xs[k]? = some x) :
    ∃ cs t f, w.heap[b]? = some (.cells cs t f) ∧ rowIn (some (.cells cs t f)) (o + k * 5) 5 = true ∧ rowPart (some (.cells cs t f)) (o + k * 5) 5 = evc x ∧ cs[o + k * 5]? = some (.int .i64 x.kd) := by
  obtain ⟨cs, t, f, hb, hi, hpa⟩ := h.elem (by omega) hk (cat_part Ev.len hx)
  obtain ⟨r1, r2⟩ := hpa 0 5 (by omega)
  rw [Nat.add_zero] at r1 r2
  have h0 := hi 0 (by omega)
  rw [Nat.add_zero] at h0
  exact ⟨cs, t, f, hb, r1, r2, by rw [h0]; rfl⟩
theorem sub_here {xk xs : List Ev} {i a n : Nat} (h : (xk.drop i).Sublist (xs.drop a)) (hi : i < xk.length) (hl : xs.length = n) (ha : a ≤ n) :
    a < n ∧ ∃ y z, xs[a]? = some y ∧ xk[i]? = some z ∧ (y ≠ z → (xk.drop i).Sublist (xs.drop (a + 1))) ∧ (xk.drop (i + 1)).Sublist (xs.drop (a + 1)) := by
  have hlt : a < n := by
    rcases Nat.lt_or_ge a n with h1 | h1
    · exact h1
    · rw [List.drop_eq_nil_of_le (by omega : xs.length ≤ a)] at h
      have := List.eq_nil_of_sublist_nil h
      have := congrArg List.length this
      simp at this
      omega
  subst hl
  rw [List.drop_eq_getElem_cons hi, List.drop_eq_getElem_cons hlt] at h
  refine ⟨hlt, xs[a], xk[i], List.getElem?_eq_getElem hlt, List.getElem?_eq_getElem hi, fun hne => ?_, sub_step h⟩
  rw [List.drop_eq_getElem_cons hi]
  exact sub_skip h hne
set_option maxHeartbeats 16000000 in
theorem traceof_any {A : Option Addr} {n cap : Nat} (xs : List Ev) (co : Int) (w : World) (hs : Sl w 5 A n (cat Ev.enc xs)) (hl : xs.length = n) :
    Calls Try.prog 4 #[.slice A n cap, .int .i64 co] w fun e w' => e = .returned (.bool true) ∧ Chg [] w w' := by
  have HS := Lib.hid hs
  have HL := Lib.hid hl
  clear hs hl
  by_cases h1 : 300 < n
  · have g1 : (300 : Int) < (n : Int) := by omega
    go_enter Try.func4, Try.ntmps4
    try dsimp only [List.append]
    go_wp2_with fail
    refine (wakes_any w).mono ?_
    rintro e w1 ⟨rfl, c1⟩
    go_wp2_with fail
    go_ret
    exact ⟨rfl, c1⟩
  have g1 : ¬ (300 : Int) < (n : Int) := by omega
  have gN : (n : Int) ≤ 300 := by omega
  have HN := Lib.hid (show n ≤ 300 by omega)
  clear h1
  go_enter Try.func4, Try.ntmps4
  try dsimp only [List.append]
  go_wp2_with fail
  go_loopw [5, 6] (fun v i wr => ∃ k : Int, -1 ≤ k ∧ k ≤ 21 ∧ i = .int .i64 k ∧ v = .int .i64 (((xs.filter (inP k)).length : Nat) : Int) ∧ Chg [] w wr) (fun _ i _ => (21 - intOf i).toNat)
  case atStart => exact ⟨-1, by omega, by omega, rfl, by rw [in_start]; rfl, Chg.refl _ _⟩
  case round =>
    obtain ⟨k, hk0, hk1, rfl, rfl, hc⟩ := hrel
    have HC := Lib.hid hc
    clear hc
    by_cases hlt : k ≤ 20
    · by_cases hz : k = 0
      · subst hz
        go_wp2_with fail
        refine ⟨⟨1, by omega, by omega, rfl, by rw [in_zero], HC.out⟩, by simp [intOf]⟩
      · have tz : (k == 0) = false := by simpa using hz
        have HZ := Lib.hid hz
        have hle := Nat.le_trans (List.length_filter_le (inP k) xs) (Nat.le_of_eq HL.out)
        have hnext := in_next k hz hk0 xs
        have hm : (ofE k (-1) xs).length ≤ n := Nat.le_trans (List.length_filter_le ..) (Nat.le_of_eq HL.out)
        have HSUB := Lib.hid (sub_begin k (-1) xs)
        have HKD := Lib.hid (fun (i : Nat) (x : Ev) (h : (ofE k (-1) xs)[i]? = some x) => ofE_kd h hz)
        have K1 := (Chg.refl [] wr).alloc (.cells #[] 29)
        obtain ⟨A1, c1, w1, happ, hs1, cc1⟩ := clone_elts (ty := 22) eltEv (wr.alloc (.cells #[] 29)) ⟨wr.heap.size, 0, none⟩ A n cap xs (HS.out.chg (HC.out.trans K1) (by simp)) HL.out (by omega) (by unfold maxLen; omega)
        have C1 := Lib.hid (HC.out.trans (K1.trans cc1))
        have HS1 := Lib.hid hs1
        clear K1 cc1 hs1 hz
        generalize hfa : (xs.filter (inP k)).length = fa at hle hnext ⊢
        have HNX := Lib.hid hnext
        have gfa : (fa : Int) ≤ 300 := by omega
        have gfa0 : (0 : Int) ≤ (fa : Int) := by omega
        clear hnext hfa
        go_wp2_with fail
        refine (of_any xs k (-1) w1 HS1.out HL.out (by omega)).mono ?_
        rintro e w2 ⟨A2, c2, rfl, hs2, cc2⟩
        have C2 := Lib.hid (C1.out.trans cc2)
        have HX := Lib.hid hs2
        clear hs2 cc2 HS1 C1 HC
        generalize hof : ofE k (-1) xs = xk at HX HSUB HKD HNX hm ⊢
        have HOF := Lib.hid hof
        have HM := Lib.hid hm
        have gm : (xk.length : Int) ≤ 300 := by omega
        have gm0 : (0 : Int) ≤ (xk.length : Int) := by omega
        clear hof hm
        go_wp2_with fail
        go_loopw [8, 9] (fun va vi wi => ∃ a i : Nat, a ≤ n ∧ i ≤ xk.length ∧ va = .int .i64 a ∧ vi = .int .i64 i ∧ (xk.drop i).Sublist (xs.drop a) ∧ Chg [] w2 wi) (fun _ vi _ => xk.length - (intOf vi).toNat)
        case atStart => exact ⟨0, 0, by omega, by omega, rfl, rfl, HSUB.out, Chg.refl _ _⟩
        case round =>
          obtain ⟨a, i, ha, hi, rfl, rfl, hsub, hc⟩ := hrel
          have HSB := Lib.hid hsub
          have HC := Lib.hid hc
          have HA := Lib.hid ha
          have HI := Lib.hid hi
          clear hsub hc ha hi
          by_cases hli : i < xk.length
          · have gi : (i : Int) < (xk.length : Int) := by omega
            have gi0 : (0 : Int) ≤ (i : Int) := by omega
            have HLI := Lib.hid hli
            clear hli
            go_wp2_with fail
            go_loopw [8] (fun va wj => ∃ a : Nat, a ≤ n ∧ va = .int .i64 a ∧ (xk.drop i).Sublist (xs.drop a) ∧ Chg [] w2 wj) (fun va _ => n - (intOf va).toNat)
            case atStart => exact ⟨a, HA.out, rfl, HSB.out, HC.out⟩
            case round =>
              clear HSB HC
              obtain ⟨a2, ha2, rfl, hsub, hc⟩ := hrel
              obtain ⟨hl2, y, z, hy, hz, hskip, hstep⟩ := sub_here hsub HLI.out HL.out ha2
              obtain ⟨b, o, rfl⟩ := HS.out.addr (by omega)
              obtain ⟨b', o', rfl⟩ := HX.out.addr (by have := HLI.out; omega)
              obtain ⟨cs, t, f, hb, r1, r2, _⟩ := ev_at (HS.out.chg (C2.out.trans hc) (by simp)) hl2 hy
              obtain ⟨cs', t', f', hb', s1, s2, s3⟩ := ev_at (HX.out.chg hc (by simp)) HLI.out hz
              have ga : (a2 : Int) < (n : Int) := by omega
              have ga0 : (0 : Int) ≤ (a2 : Int) := by omega
              have HSK := Lib.hid hskip
              have HST := Lib.hid hstep
              have HC := Lib.hid hc
              have HL2 := Lib.hid hl2
              have HKZ := Lib.hid (HKD.out i z hz)
              clear hskip hstep hc hl2 hy hz hsub ha2
              by_cases hyz : y = z
              · subst hyz
                have tq : decide (y = y) = true := by simp
                have te : ((a2 : Int) == (n : Int)) = false := by have := HL2.out; simp; omega
                have tk : (y.kd != k) = false := by have := HKZ.out; simpa using this
                go_wp2_with fail
                go_quiet (fail)
                go_wp2_with fail
                go_roundw
                case rel => exact ⟨a2 + 1, i + 1, HL2.out, HLI.out, by go_num, by go_num, HST.out, HC.out.drewN _⟩
                case measure => have := HLI.out; simp [intOf]; omega
              · have tq : decide (y = z) = false := by simpa using hyz
                have HNE := Lib.hid hyz
                clear hyz
                go_wp2_with fail
                go_quiet (fail)
                go_wp2_with fail
                go_roundw
                case rel => exact ⟨a2 + 1, HL2.out, by go_num, HSK.out HNE.out, HC.out.drewN _⟩
                case measure => have := HL2.out; simp [intOf]; omega
          · have : i = xk.length := by have := HI.out; omega
            subst this
            go_wp2_with fail
            go_roundw
            case rel => exact ⟨k + 1, by omega, by omega, by go_num, by rw [HNX.out]; go_num, C2.out.trans HC.out⟩
            case measure => simp [intOf]; omega
    · have : k = 21 := by omega
      subst this
      have hsum := in_end xs
      rw [HL.out] at hsum
      have HSUM := Lib.hid hsum
      generalize (xs.filter (inP 21)).length = fa at hsum HSUM ⊢
      have gfa : (fa : Int) ≤ 300 := by omega
      have gfa0 : (0 : Int) ≤ (fa : Int) := by omega
      clear hsum hlt hk0 hk1
      go_wp2_with fail
      go_loopw [10, 11] (fun v i wi => ∃ k : Nat, k ≤ n ∧ i = .int .i64 k ∧ v = .int .i64 ((((xs.take k).filter outP).length : Nat) : Int) ∧ Chg [] w wi) (fun _ i _ => n - (intOf i).toNat)
      case atStart => exact ⟨0, by omega, rfl, rfl, HC.out⟩
      case round =>
        clear HC
        obtain ⟨k, hk, rfl, rfl, hc⟩ := hrel
        have HC := Lib.hid hc
        clear hc
        by_cases hlt : k < n
        · obtain ⟨b, o, rfl⟩ := HS.out.addr (by omega)
          obtain ⟨x, hx⟩ : ∃ x, xs[k]? = some x := ⟨xs[k]'(by rw [HL.out]; exact hlt), List.getElem?_eq_getElem _⟩
          obtain ⟨cs, t, f, hb, _, _, r1⟩ := ev_at (HS.out.chg HC.out (by simp)) hlt hx
          have g1 : (k : Int) < (n : Int) := by omega
          have g0 : (0 : Int) ≤ (k : Int) := by omega
          have HK := Lib.hid hlt
          have HX := Lib.hid hx
          have hle := filter_le outP xs k
          generalize hm : ((xs.take k).filter outP).length = m at hle ⊢
          have HM := Lib.hid hm
          have gM : (m : Int) ≤ 300 := by omega
          have gM0 : (0 : Int) ≤ (m : Int) := by omega
          clear hx hlt hk hle hm
          have hcase : x.kd < -1 ∨ x.kd = 0 ∨ 20 < x.kd ∨ (-1 ≤ x.kd ∧ x.kd ≠ 0 ∧ x.kd ≤ 20) := by omega
          rcases hcase with d | d | d | ⟨d1, d2, d3⟩
          · have HN := Lib.hid (show ((xs.take (k + 1)).filter outP).length = m + 1 by rw [filter_yes HX.out (by simp [outP, d]), List.length_append, HM.out]; rfl)
            go_wp2_with fail
            go_roundw
            case rel => exact ⟨k + 1, HK.out, by go_num, by rw [HN.out]; go_num, HC.out⟩
            case measure => have := HK.out; simp [intOf]; omega
          · have HN := Lib.hid (show ((xs.take (k + 1)).filter outP).length = m + 1 by rw [filter_yes HX.out (by simp [outP, d]), List.length_append, HM.out]; rfl)
            have d1 : ¬ x.kd < -1 := by omega
            have d2 : (x.kd == 0) = true := by simpa using d
            clear d
            go_wp2_with fail
            go_roundw
            case rel => exact ⟨k + 1, HK.out, by go_num, by rw [HN.out]; go_num, HC.out⟩
            case measure => have := HK.out; simp [intOf]; omega
          · have HN := Lib.hid (show ((xs.take (k + 1)).filter outP).length = m + 1 by rw [filter_yes HX.out (by simp [outP, d]), List.length_append, HM.out]; rfl)
            have d1 : ¬ x.kd < -1 := by omega
            have d2 : (x.kd == 0) = false := by simp; omega
            go_wp2_with fail
            go_roundw
            case rel => exact ⟨k + 1, HK.out, by go_num, by rw [HN.out]; go_num, HC.out⟩
            case measure => have := HK.out; simp [intOf]; omega
          · have e1 : ¬ x.kd < -1 := by omega
            have e2 : (x.kd == 0) = false := by simpa using d2
            have e3 : ¬ 20 < x.kd := by omega
            have HN := Lib.hid (show ((xs.take (k + 1)).filter outP).length = m by rw [filter_no HX.out (by simp [outP, e1, e3, d2])]; exact HM.out)
            clear d1 d2 d3
            go_wp2_with fail
            go_roundw
            case rel => exact ⟨k + 1, HK.out, by go_num, by rw [HN.out], HC.out⟩
            case measure => have := HK.out; simp [intOf]; omega
        · have : k = n := by omega
          subst this
          have e1 : xs.take k = xs := List.take_of_length_le (by rw [HL.out]; exact Nat.le_refl _)
          rw [e1]
          have hsum := HSUM.out
          generalize (xs.filter outP).length = oa at hsum ⊢
          have goa : (oa : Int) ≤ 300 := by omega
          have goa0 : (0 : Int) ≤ (oa : Int) := by omega
          have tsum : ((fa : Int) + (oa : Int) == (k : Int)) = true := by simp; omega
          have hts := told_sum co xs
          have hl1 : (ofE 8 co xs).length ≤ k := Nat.le_trans (List.length_filter_le ..) (Nat.le_of_eq HL.out)
          have gt1 : ((tellV co xs).length : Int) ≤ 300 := by omega
          have gt0 : (0 : Int) ≤ ((tellV co xs).length : Int) := by omega
          have gq1 : ((xs.filter (toldP co)).length : Int) ≤ 300 := by omega
          have gq0 : (0 : Int) ≤ ((xs.filter (toldP co)).length : Int) := by omega
          have tts : (((ofE 8 co xs).length : Int) == ((tellV co xs).length : Int) + ((xs.filter (toldP co)).length : Int)) = true := by simp; omega
          clear hsum hts hl1 HSUM hlt hk e1
          go_wp2_with fail
          refine (of_any (n := k) xs 0 (-1) _ (HS.out.chg HC.out (by simp)) HL.out (by have := HN.out; omega)).mono ?_
          rintro e w1 ⟨A1, c1, rfl, s1, k1⟩
          rw [ofE_all] at s1 ⊢
          rw [HL.out] at s1 ⊢
          have C1 := Lib.hid (HC.out.trans k1)
          have S1 := Lib.hid s1
          clear s1 k1
          go_wp2_with fail
          refine (same_same (n := k) xs _ S1.out (HS.out.chg C1.out (by simp)) HL.out (by have := HN.out; omega)).mono ?_
          rintro e w2 ⟨rfl, k2⟩
          have C2 := Lib.hid (C1.out.trans k2)
          clear k2
          go_wp2_with fail
          refine (of_any (n := k) xs 8 co _ (HS.out.chg C2.out (by simp)) HL.out (by have := HN.out; omega)).mono ?_
          rintro e w3 ⟨A3, c3, rfl, s3, k3⟩
          have C3 := Lib.hid (C2.out.trans k3)
          clear s3 k3
          go_wp2_with fail
          refine (tells_any (n := k) xs co _ (HS.out.chg C3.out (by simp)) HL.out (by have := HN.out; omega)).mono ?_
          rintro e w4 ⟨A4, c4, rfl, s4, k4⟩
          have C4 := Lib.hid (C3.out.trans k4)
          clear s4 k4
          go_wp2_with fail
          refine (told_any (n := k) xs co _ (HS.out.chg C4.out (by simp)) HL.out (by have := HN.out; omega)).mono ?_
          rintro e w5 ⟨rfl, k5⟩
          have C5 := Lib.hid (C4.out.trans k5)
          clear k5
          go_wp2_with fail
          refine (wakes_any _).mono ?_
          rintro e w6 ⟨rfl, k6⟩
          have C6 := Lib.hid (C5.out.trans k6)
          clear k6
          go_wp2_with fail
          go_ret
          exact ⟨rfl, C6.out⟩
end Go.Proofs.Ytfkiejhdfngmnaa
