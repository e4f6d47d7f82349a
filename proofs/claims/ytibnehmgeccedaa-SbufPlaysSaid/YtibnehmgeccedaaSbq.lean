/- SbufOwn: walked. No condition. -/
import Derived.Test.YtibnehmgeccedaaSbw
import Derived.IntWalk
namespace Go.Proofs.Ytibnehmgeccedaa
open Go.RowKit
set_option linter.unusedVariables false
set_option maxHeartbeats 1000000

attribute [local go_sem ↓] append_appS copy_copS clear_clrS make_mkS cell_row frozen_row loadSe storeSe loadBuf storeBuf heap_drew heap_drewN heap_alloc heap_past heap_setCell heap_putRow sec_kd sec_li sec_wo sec_va sec_sn bfc_room bfc_first bfc_count
attribute [local go_sem] rowCell_some rowFrozen_some rowHas_some rowIn_some rowPart_full rowPart_lit rowPut_full rowPut_lit rowSet_some size_putRow wideSe wideBuf run_loadS run_storeS run_appS run_copS run_clrS run_mkS loadW_at storeW_at fit_all fit_le fit_pl one_int one_bool one_pointer one_slice allOne_list putRow_new ne_size1 ne_size2 ne_size3 ne_size4 sec_size sec_one sec_lit sec_z sec_ne sec_set0 sec_set1 sec_set2 sec_set3 sec_set4 seZ_kd seZ_li seZ_wo seZ_va seZ_sn fold_sec bfc_size bfc_one bfc_setFirst bfc_setCount bfc_in bfc_has bfc_part bfc_put bfc_sent
attribute [local simp ↓] heap_drew heap_drewN heap_alloc heap_past heap_setCell heap_putRow
attribute [local simp] rowCell_some rowFrozen_some rowHas_some rowIn_some rowPart_full rowPart_lit rowPut_full rowPut_lit rowSet_some size_putRow fit_all fit_pl putRow_new ne_size1 ne_size2 ne_size3 ne_size4 sec_size bfc_size bfc_setFirst bfc_setCount bfc_has bfc_put bfc_sent
attribute [local go_sem ↓] zbuf
attribute [local go_sem] bfc_setRoom bfc_ne
attribute [local go_sem ↓] loadRSe storeRSe loadFnd storeFnd loadStp storeStp
attribute [local go_sem] wideRSe wideFnd wideStp
attribute [local go_sem ↓] se_same rse_same
def oE (vals : List Int) (j : Nat) : Se := ⟨9, 2, (j : Int) % 2, vals.getD j 0, false⟩
def oL (vals : List Int) (k j : Nat) : List Se := (List.range' k (j - k)).map (oE vals)
theorem oL_nil (vals : List Int) (k : Nat) : oL vals k k = [] := by simp [oL]
theorem oL_length (vals : List Int) (k j : Nat) : (oL vals k j).length = j - k := by simp [oL]
theorem oL_succ {vals : List Int} {k j : Nat} (h : k ≤ j) : oL vals k j ++ [oE vals j] = oL vals k (j + 1) := by
  unfold oL
  rw [show j + 1 - k = (j - k) + 1 by omega, List.range'_concat, List.map_append]
  simp; congr 1; omega
theorem oL_cons {vals : List Int} {k j : Nat} (h : k < j) : oL vals k j = oE vals k :: oL vals (k + 1) j := by
  unfold oL
  rw [show j - k = (j - (k + 1)) + 1 by omega, List.range'_succ]
  rfl
theorem oE_good (vals : List Int) (j : Nat) : goodSe (oE vals j) = true := by
  have h1 : within12 ((j : Int) % 2) 0 7 = true := by simp [within12]; omega
  have h2 : within12 2 0 63 = true := by decide
  simp [goodSe, oE, h1, h2]
theorem oL_push {vals : List Int} {j : Nat} (hj : j < 16) : sbE 16 (oL vals 0 j) (oE vals j) = oL vals 0 (j + 1) ∧ sbV 16 (oL vals 0 j) (oE vals j) = 0 := by
  have h1 := oE_good vals j
  have h2 : ¬ 16 ≤ (oL vals 0 j).length := by rw [oL_length]; omega
  unfold sbE sbV
  rw [if_pos h1, if_neg h2, if_pos h1, if_neg h2, oL_succ (by omega)]
  exact ⟨rfl, rfl⟩
theorem fdO_snoc (l : List Se) (e : Se) (li wo : Int) : fdO (l ++ [e]) li wo = if isAt li wo e then some e else fdO l li wo := by
  unfold fdO
  rw [List.reverse_append, List.reverse_singleton, List.singleton_append, List.find?_cons]
  cases isAt li wo e <;> rfl
theorem fd_yes {l : List Se} {e : Se} {li wo : Int} (h : isAt li wo e = true) : fdV (l ++ [e]) li wo = e.va ∧ fdB (l ++ [e]) li wo = true := by
  unfold fdV fdB
  rw [fdO_snoc, if_pos h]
  exact ⟨rfl, rfl⟩
theorem fd_no {l : List Se} {e : Se} {li wo : Int} (h : isAt li wo e = false) : fdV (l ++ [e]) li wo = fdV l li wo ∧ fdB (l ++ [e]) li wo = fdB l li wo := by
  unfold fdV fdB
  rw [fdO_snoc, h]
  exact ⟨rfl, rfl⟩
theorem oE_at (vals : List Int) (j w : Nat) : isAt 2 w (oE vals j) = ((j : Int) % 2 == (w : Int)) := by simp [isAt, oE]
/-- A remainder, as 'Mod' reckons it. -/
def bmodn (a : Int) (n : Nat) : Nat := (a % (n : Int)).toNat
theorem bmodn_lt (a : Int) (n : Nat) (h : 0 < n) : bmodn a n < n := by
  have h1 := Int.emod_nonneg a (show (n : Int) ≠ 0 by omega)
  have h2 := Int.emod_lt_of_pos a (show (0 : Int) < (n : Int) by omega)
  unfold bmodn; omega
theorem bmod_ok (a : Int) (n : Nat) (h1 : 1 ≤ n) (h2 : n ≤ 1000000) (w : World) : Calls Try.prog 24 #[.int .i64 a, .int .i64 n] w fun e w' => e = .returned (.int .i64 (bmodn a n)) ∧ w = w' := by
  have hn0 : (n : Int) ≠ 0 := by omega
  have g1 : (1 : Int) ≤ (n : Int) := by omega
  have g2 : (n : Int) ≤ 1000000 := by omega
  have b1 : -(n : Int) < a.tmod n := by
    have := Int.lt_tmod_of_pos a (show (0 : Int) < (n : Int) by omega)
    omega
  have b2 : a.tmod n < (n : Int) := Int.tmod_lt_of_pos a (by omega)
  have hm : (bmodn a n : Int) = (a.tmod n + n) % n := by
    unfold bmodn
    rw [Int.toNat_of_nonneg (Int.emod_nonneg a hn0), Int.add_emod_right]
    exact (Int.emod_eq_emod_iff_emod_sub_eq_zero).2 (by
      have := Int.mul_tdiv_add_tmod a n
      have h3 : a - a.tmod n = n * a.tdiv n := by omega
      rw [h3]; exact Int.mul_emod_right _ _)
  have HM := Lib.hid hm
  have w1 : IntKind.i64.wrap (a.tmod n + n) = a.tmod n + n := IntWalk.i64_in _ (by omega)
  have w2 : 0 ≤ a.tmod n + n := by omega
  have w3 : IntKind.i64.wrap (a.tmod n) = a.tmod n := IntWalk.i64_in _ (by omega)
  clear hm
  go_enter Try.func24, Try.ntmps24
  go_wp2
  go_ret
  exact ⟨by rw [HM.out]; rfl, rfl⟩
set_option maxRecDepth 100000 in
theorem bown_any (A : Option Addr) (N cN : Nat) (vals : List Int) (pops : Int) (hp0 : 0 ≤ pops) (hp1 : pops < 256) (W : World) (hA : Sl W 1 A N (vals.map (Value.int .u64))) (hN : N ≤ maxLen) :
    Calls Try.prog 4 #[.slice A N cN, .int .u8 pops] W fun e w' => e = .returned (.bool true) ∧ Chg [] W w' := by
  unfold maxLen at hN
  have HA := Lib.hid hA
  have HV := Lib.hid (show vals.length = N by simpa using hA.1)
  clear hA
  have gN0 : (N : Int) ≤ 9223372036854775807 := by omega
  by_cases h16 : 16 < N
  · have t0 : (16 : Int) < (N : Int) := by omega
    clear h16
    go_enter Try.func4, Try.ntmps4
    try dsimp only [List.append]
    go_wp2_with (first
      | (go_at_call 8; refine (snew_buf 16 W (by omega) (by omega)).mono ?_; rintro e w1 ⟨q, rfl, hq, c1, b1⟩)
      | (go_at_call 7; refine (bwakes _).mono ?_; rintro e w9 ⟨rfl, c9⟩))
    go_ret
    exact ⟨rfl, c1.trans c9⟩
  have gN : (N : Int) ≤ 16 := by omega
  have HN := Lib.hid (show N ≤ 16 by omega)
  clear h16 gN0 hN
  go_enter Try.func4, Try.ntmps4
  try dsimp only [List.append]
  go_wp2_with fail
  refine (snew_buf 16 W (by omega) (by omega)).mono ?_
  rintro e w1 ⟨q, rfl, hq, c1, b1⟩
  have HQ := Lib.hid hq
  have C1 := Lib.hid c1
  have B1 := Lib.hid b1
  clear hq c1 b1
  go_wp2_with fail
  go_loopw [7] (fun i wr => ∃ j : Nat, j ≤ N ∧ i = .int .i64 j ∧ Chg [] W wr ∧ Buf wr q 16 (oL vals 0 j)) (fun i _ => N - (intOf i).toNat)
  case atStart => exact ⟨0, by omega, rfl, C1.out, by rw [oL_nil]; exact B1.out⟩
  case round =>
    obtain ⟨j, hj, rfl, hc, hb⟩ := hrel
    have HC := Lib.hid hc
    have HB := Lib.hid hb
    clear hc hb C1 B1
    by_cases hlt : j < N
    · have g1 : (j : Int) < (N : Int) := by omega
      have g0 : (0 : Int) ≤ (j : Int) := by omega
      obtain ⟨b, o, rfl⟩ := HA.out.addr (by omega)
      obtain ⟨cs, t, f, hbl, hi⟩ := (HA.out.chg HC.out (by simp)).cell hlt
      have hy : (vals.map (Value.int .u64))[j]? = some (.int .u64 (vals.getD j 0)) := by
        have := HV.out
        rw [List.getElem?_map, List.getElem?_eq_getElem (by omega)]; simp [this, hlt]
      rw [hy] at hi
      have obl := old hbl
      have HLT := Lib.hid hlt
      clear hlt hj hy
      go_wp2_with fail
      refine (spush_ok (oE vals j) HB.out).mono ?_
      rintro e w3 ⟨rfl, c3, b3⟩
      rw [(oL_push (by have := HN.out; have := HLT.out; omega)).1] at b3
      rw [(oL_push (by have := HN.out; have := HLT.out; omega)).2]
      have HC3 := Lib.hid (HC.out.trans' c3 (by have := HQ.out; simp; omega))
      have HB3 := Lib.hid b3
      clear c3 b3
      go_wp2_with fail
      go_roundw
      case rel => exact ⟨j + 1, by have := HLT.out; omega, by go_num, HC3.out, HB3.out⟩
      case measure => have := HLT.out; simp [intOf]; omega
    · obtain rfl : j = N := by omega
      clear hlt hj
      have HM := Lib.hid (bmodn_lt pops (j + 1) (by omega))
      go_wp2_with (first | (go_at_call 24; refine (bmod_ok pops (j + 1) (by omega) (by have := HN.out; omega) _).mono ?_; rintro e w' ⟨rfl, rfl⟩))
      generalize bmodn pops (j + 1) = k at HM
      go_loopw [9] (fun i wy => ∃ n : Nat, n ≤ k ∧ i = .int .i64 n ∧ Chg [] W wy ∧ Buf wy q 16 (oL vals n j)) (fun i _ => k - (intOf i).toNat)
      case atStart => exact ⟨0, by omega, rfl, HC.out, HB.out⟩
      case round =>
        obtain ⟨n, hn, rfl, hc, hb⟩ := hrel
        have HC2 := Lib.hid hc
        have HB2 := Lib.hid hb
        clear hc hb HC HB
        by_cases hlt : n < k
        · have g1 : (n : Int) < (k : Int) := by omega
          have g0 : (0 : Int) ≤ (n : Int) := by omega
          have g3 : (n : Int) < (j : Int) := by have := HM.out; omega
          obtain ⟨b, o, rfl⟩ := HA.out.addr (by have := HM.out; omega)
          have HLT := Lib.hid hlt
          have hnj : n < j := by have := HM.out; omega
          have hy : (vals.map (Value.int .u64))[n]? = some (.int .u64 (vals.getD n 0)) := by
            have := HV.out
            rw [List.getElem?_map, List.getElem?_eq_getElem (by omega)]; simp [this, hnj]
          rw [oL_cons hnj] at HB2
          have HNJ := Lib.hid hnj
          have HY := Lib.hid hy
          clear hlt hn hy hnj
          go_wp2_with fail
          refine (spop_ok HB2.out).mono ?_
          rintro e w3 ⟨rfl, c3, b3⟩
          rw [show hdE (oE vals n :: oL vals (n + 1) j) = oE vals n from rfl, show hdB (oE vals n :: oL vals (n + 1) j) = true from rfl]
          have HC3 := Lib.hid (HC2.out.trans' c3 (by have := HQ.out; simp; omega))
          have c4 := (Chg.refl [] w3).alloc (.cells (sec (oE vals n)) 33)
          have HC4 := Lib.hid (HC3.out.trans c4)
          have HB4 := Lib.hid (show Buf (w3.alloc (.cells (sec (oE vals n)) 33)) q 16 (oL vals (n + 1) j) from Buf.keep b3 c4 (by simp))
          have hx4 : (w3.alloc (.cells (sec (oE vals n)) 33)).heap[w3.heap.size]? = some (.cells (sec (oE vals n)) 33 (0, 0)) := by simp
          clear c3 b3 c4 HC3 HC2 HB2
          go_wp2_with fail
          generalize w3.heap.size = p at hx4 ⊢
          generalize w3.alloc (.cells (sec (oE vals n)) 33) = w4 at hx4 HC4 HB4 ⊢
          obtain ⟨cs, t, f, hbl, hi⟩ := (HA.out.chg HC4.out (by simp)).cell HNJ.out
          rw [HY.out] at hi
          have obl := old hbl
          have ox4 := old hx4
          have tv : (oE vals n).va = vals.getD n 0 := rfl
          have tn : (vals.getD n 0 != vals.getD n 0) = false := by simp
          go_quiet (fail)
          go_wp2_with fail
          go_roundw
          case rel => exact ⟨n + 1, by have := HLT.out; omega, by go_num, HC4.out.drewN nq, HB4.out.keep ((Chg.refl [] w4).drewN nq) (by simp)⟩
          case measure => have := HLT.out; simp [intOf]; omega
        · obtain rfl : n = k := by omega
          clear hlt hn
          have HCk := Lib.hid HC2.out
          have HBk := Lib.hid HB2.out
          clear HC2 HB2
          go_wp2_with fail
          go_loopw [12] (fun i wy => ∃ x : Nat, x ≤ 2 ∧ i = .int .i64 x ∧ Chg [] W wy ∧ Buf wy q 16 (oL vals n j)) (fun i _ => 2 - (intOf i).toNat)
          case atStart => exact ⟨0, by omega, rfl, HCk.out, HBk.out⟩
          case round =>
            obtain ⟨x, hx, rfl, hc, hb⟩ := hrel
            have HC5 := Lib.hid hc
            have HB5 := Lib.hid hb
            clear hc hb HCk HBk
            by_cases hlt : x < 2
            · have g1 : (x : Int) < 2 := by omega
              have g0 : (0 : Int) ≤ (x : Int) := by omega
              have HLT := Lib.hid hlt
              clear hlt hx
              go_wp2_with fail
              go_loopw [13, 14, 15] (fun a c i wy => ∃ y : Nat, n ≤ y ∧ y ≤ j ∧ i = .int .i64 y ∧ a = .int .u64 (fdV (oL vals n y) 2 x) ∧ c = .bool (fdB (oL vals n y) 2 x) ∧ Chg [] W wy ∧ Buf wy q 16 (oL vals n j)) (fun _ _ i _ => j - (intOf i).toNat)
              case atStart => exact ⟨n, by omega, by have := HM.out; omega, rfl, by rw [oL_nil]; rfl, by rw [oL_nil]; rfl, HC5.out, HB5.out⟩
              case round =>
                obtain ⟨y, hny, hyj, rfl, rfl, rfl, hc, hb⟩ := hrel
                have HC6 := Lib.hid hc
                have HB6 := Lib.hid hb
                clear hc hb HC5 HB5
                by_cases hlt2 : y < j
                · have g2 : (y : Int) < (j : Int) := by omega
                  have g3 : (0 : Int) ≤ (y : Int) := by omega
                  obtain ⟨b, o, rfl⟩ := HA.out.addr (by omega)
                  obtain ⟨cs, t, f, hbl, hi⟩ := (HA.out.chg HC6.out (by simp)).cell hlt2
                  have hy : (vals.map (Value.int .u64))[y]? = some (.int .u64 (vals.getD y 0)) := by
                    have := HV.out
                    rw [List.getElem?_map, List.getElem?_eq_getElem (by omega)]; simp [this, hlt2]
                  rw [hy] at hi
                  have obl := old hbl
                  have HY := Lib.hid hlt2
                  have HNY := Lib.hid hny
                  have HAT := Lib.hid (oE_at vals y x)
                  clear hlt2 hny hyj hy
                  cases hat : ((y : Int) % 2 == (x : Int))
                  · have HF := Lib.hid (fd_no (l := oL vals n y) (show isAt 2 x (oE vals y) = false by rw [HAT.out, hat]))
                    go_wp2_with fail
                    go_roundw
                    case rel => exact ⟨y + 1, by have := HNY.out; omega, by have := HY.out; omega, by go_num, by rw [← oL_succ HNY.out, HF.out.1], by rw [← oL_succ HNY.out, HF.out.2], HC6.out, HB6.out⟩
                    case measure => have := HY.out; simp [intOf]; omega
                  · have HF := Lib.hid (fd_yes (l := oL vals n y) (show isAt 2 x (oE vals y) = true by rw [HAT.out, hat]))
                    go_wp2_with fail
                    go_roundw
                    case rel => exact ⟨y + 1, by have := HNY.out; omega, by have := HY.out; omega, by go_num, by rw [← oL_succ HNY.out, HF.out.1]; rfl, by rw [← oL_succ HNY.out, HF.out.2], HC6.out, HB6.out⟩
                    case measure => have := HY.out; simp [intOf]; omega
                · obtain rfl : y = j := by omega
                  clear hlt2 hny hyj
                  go_wp2_with fail
                  refine (sfind_ok 2 x HB6.out).mono ?_
                  rintro e w7 ⟨rfl, c7⟩
                  have HC7 := Lib.hid (HC6.out.trans c7)
                  have HB7 := Lib.hid (HB6.out.keep c7 (by simp))
                  clear c7 HC6 HB6
                  have tv : (fdV (oL vals n y) 2 x != fdV (oL vals n y) 2 x) = false := by simp
                  have tb : (fdB (oL vals n y) 2 x != fdB (oL vals n y) 2 x) = false := by simp
                  go_wp2_with fail
                  go_roundw
                  case rel => exact ⟨x + 1, by have := HLT.out; omega, by go_num, HC7.out, HB7.out⟩
                  case measure => have := HLT.out; simp [intOf]; omega
            · obtain rfl : x = 2 := by omega
              clear hlt hx
              have hle : (n : Int) ≤ (j : Int) := by have := HM.out; omega
              have hl5 : (((oL vals n j).length : Nat) : Int) = (j : Int) - (n : Int) := by rw [oL_length]; omega
              go_wp2_with (first
                | (go_at_call 21; refine (slen_ok HB5.out).mono ?_; rintro e w' ⟨rfl, rfl⟩; rw [hl5])
                | (go_at_call 7; refine (bwakes _).mono ?_; rintro e w9 ⟨rfl, c9⟩))
              go_ret
              exact ⟨rfl, HC5.out.trans c9⟩
end Go.Proofs.Ytibnehmgeccedaa
