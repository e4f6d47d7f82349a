/- SbufFull, SbufOwn: walked. No condition. -/
import Derived.Test.YtibnehmgeccedaaSbw
import Derived.Deep.RegionHeld3
namespace Go.Proofs.Ytibnehmgeccedaa
open Go.RowKit
set_option linter.unusedVariables false
set_option maxHeartbeats 1000000

attribute [local go_sem ↓] append_appS copy_copS clear_clrS make_mkS cell_row frozen_row loadSe storeSe loadBuf storeBuf heap_drew heap_drewN heap_alloc heap_past heap_setCell heap_putRow sec_kd sec_li sec_wo sec_va sec_sn bfc_room bfc_first bfc_count
attribute [local go_sem] rowCell_some rowFrozen_some rowHas_some rowIn_some rowPart_full rowPart_lit rowPut_full rowPut_lit rowSet_some size_putRow wideSe wideBuf run_loadS run_storeS run_appS run_copS run_clrS run_mkS loadW_at storeW_at fit_all fit_le fit_pl one_int one_bool one_pointer one_slice allOne_list putRow_new ne_size1 ne_size2 ne_size3 ne_size4 sec_size sec_one sec_lit sec_z sec_ne sec_set0 sec_set1 sec_set2 sec_set3 sec_set4 seZ_kd seZ_li seZ_wo seZ_va seZ_sn fold_sec bfc_size bfc_one bfc_setFirst bfc_setCount bfc_in bfc_has bfc_part bfc_put bfc_sent
attribute [local simp ↓] heap_drew heap_drewN heap_alloc heap_past heap_setCell heap_putRow
attribute [local simp] rowCell_some rowFrozen_some rowHas_some rowIn_some rowPart_full rowPart_lit rowPut_full rowPut_lit rowSet_some size_putRow fit_all fit_pl putRow_new ne_size1 ne_size2 ne_size3 ne_size4 sec_size bfc_size bfc_setFirst bfc_setCount bfc_has bfc_put bfc_sent
attribute [local go_sem ↓] zbuf
attribute [local go_sem] bfc_setRoom bfc_ne
attribute [local go_sem ↓] loadRSe storeRSe loadFnd storeFnd loadStp storeStp
attribute [local go_sem] wideRSe wideFnd wideStp
attribute [local go_sem ↓] se_same rse_same
/-! ### SbufFull -/
/-- j entries of this kind, of lines 0, 1, .. -/
def flE (x : Int) (j : Nat) : List Se := (List.range j).map (fun i : Nat => (⟨x, (i : Int), 0, 0, false⟩ : Se))
theorem flE_length (x : Int) (j : Nat) : (flE x j).length = j := by simp [flE]
theorem flE_succ (x : Int) (j : Nat) : flE x j ++ [⟨x, (j : Int), 0, 0, false⟩] = flE x (j + 1) := by simp [flE, List.range_succ]
theorem flE_good {x : Int} {j : Nat} (hx : x = 14 ∨ x = 12 ∨ x = 13 ∨ x = 9) (hj : j < 16) : goodSe ⟨x, (j : Int), 0, 0, false⟩ = true := by
  have h1 : within12 (j : Int) 0 63 = true := by simp [within12]; omega
  rcases hx with rfl | rfl | rfl | rfl <;> simp [goodSe, h1] <;> decide
theorem flE_push {x : Int} {j K : Nat} (hx : x = 14 ∨ x = 12 ∨ x = 13 ∨ x = 9) (hj : j < K) (hK : K ≤ 16) : sbE K (flE x j) ⟨x, (j : Int), 0, 0, false⟩ = flE x (j + 1) ∧ sbV K (flE x j) ⟨x, (j : Int), 0, 0, false⟩ = 0 := by
  have h1 := flE_good hx (show j < 16 by omega)
  have h2 : ¬ K ≤ (flE x j).length := by rw [flE_length]; omega
  unfold sbE sbV
  rw [if_pos h1, if_neg h2, if_pos h1, if_neg h2, flE_succ]
  exact ⟨rfl, rfl⟩
theorem flE_full (x : Int) (K : Nat) : sbE K (flE x K) ⟨9, 1, 0, 5, false⟩ = flE x K ∧ sbV K (flE x K) ⟨9, 1, 0, 5, false⟩ = 13 := by
  have h1 : goodSe ⟨9, 1, 0, 5, false⟩ = true := by decide
  have h2 : K ≤ (flE x K).length := by rw [flE_length]; omega
  unfold sbE sbV
  rw [if_pos h1, if_pos h2, if_pos h1, if_pos h2]
  exact ⟨rfl, rfl⟩
/-- Is entry i sent behind a Send? -/
def flS (x : Int) (i : Nat) : Bool := decide (i = 0) && (x == 14)
theorem flE_sent {x : Int} {K i : Nat} (hi : i < K) : (sdE (flE x K))[i]? = some ⟨x, (i : Int), 0, 0, flS x i⟩ := by
  obtain ⟨k, rfl⟩ : ∃ k, K = k + 1 := ⟨K - 1, by omega⟩
  have e1 : flE x (k + 1) = ⟨x, 0, 0, 0, false⟩ :: (List.range k).map (fun i : Nat => (⟨x, ((i + 1 : Nat) : Int), 0, 0, false⟩ : Se)) := by
    simp [flE, List.range_succ_eq_map]
  rw [e1]
  unfold sdE
  rcases i with _ | i
  · by_cases h : x = 14 <;> simp [h, flS, sent]
  · have hk : i < k := by omega
    by_cases h : x = 14 <;> simp [h, flS, hk]
theorem flE_head {x : Int} {K : Nat} (hK : 1 ≤ K) : hdE (sdE (flE x K)) = ⟨x, 0, 0, 0, flS x 0⟩ ∧ hdB (sdE (flE x K)) = true := by
  have h0 := flE_sent (x := x) (show 0 < K by omega)
  generalize sdE (flE x K) = l at h0
  cases l with
  | nil => simp at h0
  | cons y l => simp at h0; subst h0; exact ⟨rfl, rfl⟩
theorem kinds4 (kind : Int) (hk0 : 0 ≤ kind) : ∃ (m : Nat) (x : Int), kind % 4 = (m : Int) ∧ m < 4 ∧ (x = 14 ∨ x = 12 ∨ x = 13 ∨ x = 9) ∧ (#[.int .i64 14, .int .i64 12, .int .i64 13, .int .i64 9] : Array Value)[m]? = some (.int .i64 x) := by
  have h : (kind % 4).toNat = 0 ∨ (kind % 4).toNat = 1 ∨ (kind % 4).toNat = 2 ∨ (kind % 4).toNat = 3 := by omega
  rcases h with h | h | h | h
  · exact ⟨0, 14, by omega, by omega, by simp, rfl⟩
  · exact ⟨1, 12, by omega, by omega, by simp, rfl⟩
  · exact ⟨2, 13, by omega, by omega, by simp, rfl⟩
  · exact ⟨3, 9, by omega, by omega, by simp, rfl⟩
set_option maxRecDepth 100000 in
theorem bfull_any (n kind : Int) (hn : 0 ≤ n) (hn1 : n < 256) (hk0 : 0 ≤ kind) (hk1 : kind < 256) (W : World) : Calls Try.prog 6 #[.int .u8 n, .int .u8 kind] W fun e w' => e = .returned (.bool true) ∧ Chg [] W w' := by
  obtain ⟨K, hK, hK1, hK16⟩ : ∃ K : Nat, 1 + n % 16 = (K : Int) ∧ 1 ≤ K ∧ K ≤ 16 := ⟨(1 + n % 16).toNat, by omega, by omega, by omega⟩
  obtain ⟨m, x, hm, hm4, hx, hkx⟩ := kinds4 kind hk0
  have HX := Lib.hid hx
  have m0 : (0 : Int) ≤ (m : Int) := by omega
  have m4 : (m : Int) < 4 := by omega
  have gK : (K : Int) ≤ 16 := by omega
  have HM := Lib.hid hm4
  have HK1 := Lib.hid hK1
  have HK16 := Lib.hid hK16
  clear hx hm4 hK1 hK16
  go_enter Try.func6, Try.ntmps6
  try dsimp only [List.append]
  go_wp2_with fail
  refine (snew_buf K W HK1.out HK16.out).mono ?_
  rintro e w1 ⟨q, rfl, hq, c1, b1⟩
  have HQ := Lib.hid hq
  have C1 := Lib.hid c1
  have B1 := Lib.hid b1
  clear hq c1 b1
  go_wp2_with fail
  have c2 := (Chg.refl [] w1).alloc (.cells #[.int .i64 14, .int .i64 12, .int .i64 13, .int .i64 9] 3)
  have C2 := Lib.hid (C1.out.trans c2)
  have B2 := Lib.hid (B1.out.keep c2 (by simp))
  clear c2 C1 B1
  generalize w1.alloc (.cells #[.int .i64 14, .int .i64 12, .int .i64 13, .int .i64 9] 3) = w2 at C2 B2 ⊢
  try simp only [hm]
  clear hm hkx
  go_loopw [10] (fun i wr => ∃ j : Nat, j ≤ K ∧ i = .int .i64 j ∧ Chg [] W wr ∧ Buf wr q K (flE x j)) (fun i _ => K - (intOf i).toNat)
  case atStart => exact ⟨0, by omega, rfl, C2.out, B2.out⟩
  case round =>
    obtain ⟨j, hj, rfl, hc, hb⟩ := hrel
    have HC := Lib.hid hc
    have HB := Lib.hid hb
    clear hc hb C2 B2
    by_cases hlt : j < K
    · have g1 : (j : Int) < (K : Int) := by omega
      have g0 : (0 : Int) ≤ (j : Int) := by omega
      have HLT := Lib.hid hlt
      clear hlt hj
      go_wp2_with fail
      refine (spush_ok ⟨x, (j : Int), 0, 0, false⟩ HB.out).mono ?_
      rintro e w3 ⟨rfl, c3, b3⟩
      rw [(flE_push HX.out HLT.out HK16.out).1] at b3
      rw [(flE_push HX.out HLT.out HK16.out).2]
      have HC3 := Lib.hid (HC.out.trans' c3 (by have := HQ.out; simp; omega))
      have HB3 := Lib.hid b3
      clear c3 b3
      go_wp2_with fail
      go_roundw
      case rel =>
        exact ⟨j + 1, by have := HLT.out; omega, by go_num, HC3.out, HB3.out⟩
      case measure => have := HLT.out; simp [intOf]; omega
    · obtain rfl : j = K := by omega
      clear hlt hj
      have tKK : ((j : Int) != (j : Int)) = false := by simp
      go_wp2_with fail
      refine (spush_ok ⟨9, 1, 0, 5, false⟩ HB.out).mono ?_
      rintro e w3 ⟨rfl, c3, b3⟩
      rw [(flE_full x j).1] at b3
      rw [(flE_full x j).2]
      have HC3 := Lib.hid (HC.out.trans' c3 (by have := HQ.out; simp; omega))
      have HB3 := Lib.hid b3
      clear c3 b3 HC HB
      go_wp2_with fail
      refine (slen_ok HB3.out).mono ?_
      rintro e w' ⟨rfl, rfl⟩
      rw [flE_length]
      go_wp2_with fail
      refine (ssend_ok HB3.out).mono ?_
      rintro e w4 ⟨rfl, c4, b4⟩
      have HC4 := Lib.hid (HC3.out.trans' c4 (by have := HQ.out; simp; omega))
      have HB4 := Lib.hid b4
      clear c4 b4 HC3 HB3
      go_wp2_with fail
      refine (sall_ok HB4.out).mono ?_
      rintro e w5 ⟨b, rfl, hbn, c5, hb5⟩
      have HL5 := Lib.hid (show (sdE (flE x j)).length = j by rw [sdE_length, flE_length])
      rw [HL5.out]
      have HC5 := Lib.hid (HC4.out.trans c5)
      have HB5 := Lib.hid (HB4.out.keep c5 (by simp))
      have HH5 := Lib.hid hb5
      clear c5 hb5 HC4 HB4 hbn
      go_wp2_with fail
      go_loopw [12] (fun i wr => ∃ k : Nat, k ≤ j ∧ i = .int .i64 k ∧ Chg [] w5 wr) (fun i _ => j - (intOf i).toNat)
      case atStart => exact ⟨0, by omega, rfl, Chg.refl _ _⟩
      case round =>
        obtain ⟨k, hk, rfl, hc⟩ := hrel
        have HC := Lib.hid hc
        have hbr := hc.keep HH5.out (by simp)
        have obr := old hbr
        clear hc
        by_cases hlt : k < j
        · have g1 : (k : Int) < (j : Int) := by omega
          have g0 : (0 : Int) ≤ (k : Int) := by omega
          have he := flE_sent (x := x) hlt
          have e0 := sq_cell Se.len he [] 0 (by omega)
          have e1 := sq_cell Se.len he [] 1 (by omega)
          have e4 := sq_cell Se.len he [] 4 (by omega)
          have e0' : (sq Se.enc (sdE (flE x j)) [])[k * 5]? = some (.int .i64 x) := e0
          have e1' : (sq Se.enc (sdE (flE x j)) [])[k * 5 + 1]? = some (.int .i64 k) := e1
          have e4' : (sq Se.enc (sdE (flE x j)) [])[k * 5 + 4]? = some (.bool (flS x k)) := e4
          have HLT := Lib.hid hlt
          have HS := Lib.hid (show (x == 14) = true ∨ (x == 14) = false by cases (x == 14) <;> simp)
          clear e0 e1 e4 he hlt hk
          rcases Nat.eq_zero_or_pos k with hk0 | hk0
          · subst hk0
            have hs0 : flS x 0 = (x == 14) := by simp [flS]
            rw [hs0] at e4'
            rcases HS.out with t14 | t14
            all_goals
              rw [t14] at e4'
              clear hs0
              go_wp2_with fail
              go_roundw
              case rel => exact ⟨1, by have := HLT.out; omega, by go_num, HC.out⟩
              case measure => have := HLT.out; simp [intOf]; omega
          · have hs0 : flS x k = false := by simp [flS]; omega
            rw [hs0] at e4'
            have tk0 : ((k : Int) == 0) = false := by simp; omega
            clear hs0 hk0
            go_wp2_with fail
            go_roundw
            case rel => exact ⟨k + 1, by have := HLT.out; omega, by go_num, HC.out⟩
            case measure => have := HLT.out; simp [intOf]; omega
        · obtain rfl : k = j := by omega
          clear hlt hk hbr obr
          have HBR := Lib.hid (HB5.out.keep HC.out (by simp))
          go_wp2_with fail
          refine (spop_ok HBR.out).mono ?_
          rintro e w6 ⟨rfl, c6, b6⟩
          rw [(flE_head HK1.out).1, (flE_head HK1.out).2]
          have HC6 := Lib.hid ((HC5.out.trans HC.out).trans' c6 (by have := HQ.out; simp; omega))
          have HB7 := Lib.hid (fun s : Bool => b6.keep ((Chg.refl [] w6).alloc (.cells (sec ⟨x, 0, 0, 0, s⟩) 33)) (by simp))
          have HC7 := Lib.hid (fun s : Bool => HC6.out.trans ((Chg.refl [] w6).alloc (.cells (sec ⟨x, 0, 0, 0, s⟩) 33)))
          have hs0 : flS x 0 = (x == 14) := by simp [flS]
          rw [hs0]
          have hl6 : (((sdE (flE x k)).tail.length : Nat) : Int) = (k : Int) - 1 := by
            have := HK1.out
            rw [List.length_tail, HL5.out]; omega
          clear c6 b6 HC6 hs0
          rcases (show (x == 14) = true ∨ (x == 14) = false by cases (x == 14) <;> simp) with t14 | t14
          all_goals
            go_wp2_with (first
              | (go_at_call 21; refine (slen_ok (HB7.out _)).mono ?_; rintro e w' ⟨rfl, rfl⟩; rw [hl6])
              | (go_at_call 7; refine (bwakes _).mono ?_; rintro e w9 ⟨rfl, c9⟩))
            go_ret
            exact ⟨rfl, (HC7.out _).trans c9⟩
end Go.Proofs.Ytibnehmgeccedaa
