/- NvmPlays, walked. No condition. -/
import Derived.Test.YtdeloippchnogaaNvmd
import Derived.Test.YtdeloippchnogaaArgs
namespace Go.Proofs.Ytdeloippchnogaa
open Go.RowKit
set_option linter.unusedVariables false
attribute [local go_sem] fit_le vs_set
attribute [local go_sem ↓] append_appS copy_copS clear_clrS make_mkS cell_row frozen_row loadLine storeLine heap_drew heap_drewN heap_alloc heap_past heap_setCell heap_putRow
attribute [local go_sem] rowCell_some rowFrozen_some rowHas_some rowIn_some rowPart_full rowPart_lit rowPut_full rowPut_lit rowSet_some size_putRow vs_size vs_one wideLine run_loadS run_storeS run_appS run_copS run_clrS run_mkS loadW_at storeW_at fit_all one_int one_bool one_pointer one_slice allOne_list putRow_new ne_size1 ne_size2 ne_size3 ne_size4 zero8_length lines_nil
attribute [local simp ↓] heap_drew heap_drewN heap_alloc heap_past heap_setCell heap_putRow
attribute [local simp] rowCell_some rowFrozen_some rowHas_some rowIn_some rowPart_full rowPart_lit rowPut_full rowPut_lit rowSet_some size_putRow vs_size fit_all putRow_new ne_size1 ne_size2 ne_size3 ne_size4 zero8_length


attribute [local go_sem ↓] vs_get loadStep storeStep
attribute [local go_sem] line_eq lit8 wideStep


/-- The kinds of a step's cells. -/
def kStep : List Kd := .int .i64 :: .int .i64 :: (kLine ++ [.slice kLine])
/-- A step's cells. -/
theorem step_cells {w : World} {cs : List Value} (h : AreKd w kStep cs) : ∃ (kd li a0 a1 a2 a3 a4 a5 a6 a7 : Int) (A' : Option Addr) (n' c' : Nat) (ys : List Int), cs = [.int .i64 kd, .int .i64 li, .int .u64 a0, .int .u64 a1, .int .u64 a2, .int .u64 a3, .int .u64 a4, .int .u64 a5, .int .u64 a6, .int .u64 a7, .slice A' n' c'] ∧ Sl w 8 A' n' (ys.map (Value.int .u64)) := by
  obtain ⟨v0, c0, rfl, h0, h⟩ := AreKd.head h
  obtain ⟨v1, c1, rfl, h1, h⟩ := AreKd.head h
  obtain ⟨c2, c3, rfl, h2, h⟩ := AreKd.cut h
  obtain ⟨v3, c4, rfl, h3, h⟩ := AreKd.head h
  obtain rfl := AreKd.done h
  rw [IsKd] at h0 h1
  obtain ⟨kd, rfl, _⟩ := h0
  obtain ⟨li, rfl, _⟩ := h1
  obtain ⟨ns, hl, rfl, _⟩ := AreKd.ints h2
  obtain ⟨a0, a1, a2, a3, a4, a5, a6, a7, rfl⟩ := list8 ns hl
  obtain ⟨A', n', c', ys, rfl, _, _, hs, _⟩ := h3.lines
  exact ⟨kd, li, a0, a1, a2, a3, a4, a5, a6, a7, A', n', c', ys, rfl, hs⟩
/-- How many lines step i's image has. -/
def imgLen (xs : List Value) (i : Nat) : Nat := match xs[i * 11 + 10]? with | some (.slice _ m _) => m | _ => 0
theorem imgLen_eq {xs : List Value} {i : Nat} {A : Option Addr} {n c : Nat} (h : xs[i * 11 + 10]? = some (.slice A n c)) : imgLen xs i = n := by simp [imgLen, h]
theorem step_img {W : World} {xs : List Value} {i : Nat} (h : AreKd W kStep ((xs.drop (i * 11)).take 11)) : ∃ (A : Option Addr) (n c : Nat), xs[i * 11 + 10]? = some (.slice A n c) := by
  obtain ⟨kd, li, a0, a1, a2, a3, a4, a5, a6, a7, A', n', c', ys, e, _⟩ := step_cells h
  have := congrArg (·[10]?) e
  simp only [List.getElem?_take_of_lt (show 10 < 11 by omega), List.getElem?_drop] at this
  exact ⟨A', n', c', this⟩
theorem imgs_of {W : World} {n : Nat} {xs : List Value} {b o : Nat} {c : Array Value} (hx : (c.toList.drop o).take (n * 11) = xs) (hk : ∀ i, i < n → AreKd W kStep ((xs.drop (i * 11)).take 11)) : Imgs c o n (imgLen xs) := by
  intro i hi
  obtain ⟨A, m, k, e⟩ := step_img (hk i hi)
  refine ⟨A, k, ?_⟩
  rw [imgLen_eq e]
  rw [← hx, List.getElem?_take_of_lt (by omega), List.getElem?_drop, Array.getElem?_toList] at e
  rw [Nat.add_assoc]
  exact e

set_option maxRecDepth 100000 in
set_option maxHeartbeats 8000000 in
theorem plays_any (lines vol : Int) (A : Option Addr) (n c : Nat) (xs : List Value) (W : World) (hs : Sl W 11 A n xs) (hn : n ≤ maxLen) (hk : ∀ i, i < n → AreKd W kStep ((xs.drop (i * 11)).take 11)) :
    Calls Try.prog 3 #[.int .i64 lines, .int .i64 vol, .slice A n c] W fun e w' => e = .returned (.bool true) ∧ Chg [] W w' := by
  unfold maxLen at hn
  have hfair : Calls Try.prog 7 #[.slice A n c] W (SomeBool (Few n (imgLen xs)) W) := by
    rcases hs.2 with h0 | ⟨b, o, cs, t, f, rfl, hb, hx⟩
    · subst h0
      refine (fair_none A c W).mono ?_
      rintro e w' ⟨b, rfl, rfl, _⟩
      exact ⟨b, rfl, rfl, fun _ i hi => by omega⟩
    · exact fair_some b o n c cs _ t f W hb (imgs_of (b := b) hx hk) hn
  have HF := Lib.hid hfair
  have HS := Lib.hid hs
  have HK := Lib.hid hk
  clear hfair hs hk
  go_enter Try.func3, Try.ntmps3
  go_wp2_with fail
  refine HF.out.mono ?_
  rintro e w0 ⟨bb, rfl, rfl, hfew⟩
  cases bb
  · go_wp2_with (go_at_call 8; refine (wakes_true _).mono ?_; rintro e w2 ⟨rfl, c2⟩)
    go_ret
    exact ⟨rfl, c2⟩
  have FEW := Lib.hid (hfew rfl)
  clear hfew
  go_wp2_with fail
  by_cases hgood : 2 ≤ lines ∧ lines ≤ 64 ∧ 1 ≤ vol ∧ vol < lines
  · obtain ⟨N, rfl⟩ := Int.eq_ofNat_of_zero_le (show 0 ≤ lines by omega)
    obtain ⟨V, rfl⟩ := Int.eq_ofNat_of_zero_le (show 0 ≤ vol by omega)
    have N2 : 2 ≤ N := by omega
    have N64 : N ≤ 64 := by omega
    have V1 : 1 ≤ V := by omega
    have VN : V < N := by omega
    clear hgood
    refine (new_ok N V W N2 N64 V1 VN).mono ?_
    rintro e w1 ⟨rfl, c1, d1, z1⟩
    have D1 := Lib.hid d1
    have C1 := Lib.hid c1
    have Z1 := Lib.hid z1
    clear d1 c1 z1
    go_wp2_with fail
    refine (rnew_ok N V w1 N2 N64 V1 VN).mono ?_
    rintro e w2 ⟨rfl, c2, d2, z2⟩
    have D2 := Lib.hid (D1.out.keep c2 (by simp) (by simp))
    have Q2 := Lib.hid d2
    have C2 := Lib.hid (C1.out.trans c2)
    clear c2 d2 z2
    go_wp2_with fail
    go_loopw [11] (fun i wr => ∃ (k : Nat) (ys : List Int) (bq : Nat), k ≤ n ∧ i = .int .i64 k ∧ Chg [] W wr ∧ Dev wr (W.heap.size + 1) W.heap.size N V ys ∧ RDev wr (w1.heap.size + 1) bq N V ys ∧ w1.heap.size ≤ bq) (fun i _ => n - (intOf i).toNat)
    case atStart => exact ⟨0, _, w1.heap.size, by omega, rfl, C2.out, D2.out, Q2.out, Nat.le_refl _⟩
    case round =>
      obtain ⟨k, ys, bq, hkn, rfl, hc, hd, hq, hbq⟩ := hrel
      have HB := Lib.hid hbq
      have HZ := Lib.hid (show W.heap.size + 2 ≤ bq ∧ bq ≠ w1.heap.size + 1 ∧ w1.heap.size = W.heap.size + 2 from ⟨by have := Z1.out; omega, fun e => hq.2.2.2.2.2.2.2 e.symm, Z1.out⟩)
      clear hbq
      by_cases hlt : k < n
      · obtain ⟨ab, ao, rfl⟩ := HS.out.addr (by omega)
        obtain ⟨cs, t, f, hb, hi, hp⟩ := (HS.out.chg hc (by simp)).part (by omega) hlt
        obtain ⟨kd, li, a0, a1, a2, a3, a4, a5, a6, a7, A', n', c', zs, e, hz⟩ := step_cells (HK.out k hlt)
        have hn' : n' ≤ 100 := by
          have := FEW.out k hlt
          have e10 := congrArg (·[10]?) e
          simp only [List.getElem?_take_of_lt (show 10 < 11 by omega), List.getElem?_drop] at e10
          rw [imgLen_eq e10] at this
          exact this
        rw [e] at hp
        have g1 : (k : Int) < (n : Int) := by omega
        have g0 : (0 : Int) ≤ (k : Int) := by omega
        have t1 : decide (k < n) = true := by simpa using hlt
        have HZS := Lib.hid hz
        have ob := old hb
        have HD := Lib.hid (hd.keep ((Chg.refl [] wr).alloc (.cells #[.int .i64 kd, .int .i64 li, .int .u64 a0, .int .u64 a1, .int .u64 a2, .int .u64 a3, .int .u64 a4, .int .u64 a5, .int .u64 a6, .int .u64 a7, .slice A' n' c'] 37)) (by simp) (by simp))
        have HQ := Lib.hid (hq.keep ((Chg.refl [] wr).alloc (.cells #[.int .i64 kd, .int .i64 li, .int .u64 a0, .int .u64 a1, .int .u64 a2, .int .u64 a3, .int .u64 a4, .int .u64 a5, .int .u64 a6, .int .u64 a7, .slice A' n' c'] 37)) (by simp) (by simp))
        have HC := Lib.hid (hc.alloc (.cells #[.int .i64 kd, .int .i64 li, .int .u64 a0, .int .u64 a1, .int .u64 a2, .int .u64 a3, .int .u64 a4, .int .u64 a5, .int .u64 a6, .int .u64 a7, .slice A' n' c'] 37))
        have hxx : (wr.alloc (.cells #[.int .i64 kd, .int .i64 li, .int .u64 a0, .int .u64 a1, .int .u64 a2, .int .u64 a3, .int .u64 a4, .int .u64 a5, .int .u64 a6, .int .u64 a7, .slice A' n' c'] 37)).heap[wr.heap.size]? = some (.cells #[.int .i64 kd, .int .i64 li, .int .u64 a0, .int .u64 a1, .int .u64 a2, .int .u64 a3, .int .u64 a4, .int .u64 a5, .int .u64 a6, .int .u64 a7, .slice A' n' c'] 37 (0, 0)) := by simp
        have HWR := Lib.hid (show W.heap.size + 1 < wr.heap.size ∧ w1.heap.size + 1 < wr.heap.size ∧ bq < wr.heap.size ∧ ab < wr.heap.size from ⟨(old hd.1.choose_spec.choose_spec).lt, (old hq.1.choose_spec).lt, (old hq.2.1.choose_spec).lt, ob.lt⟩)
        clear hd hq hc hz e
        have hz1 := HZ.out
        have hz2 := HWR.out
        by_cases k0 : kd = 0
        · subst k0
          by_cases hin : 0 ≤ li ∧ li < N
          · obtain ⟨j, rfl⟩ := Int.eq_ofNat_of_zero_le hin.1
            have hj : j < N := by omega
            clear hin hz1 hz2
            go_wp2_with fail
            have HSZ := Lib.hid (show (wr.alloc (.cells #[.int .i64 0, .int .i64 (j : Int), .int .u64 a0, .int .u64 a1, .int .u64 a2, .int .u64 a3, .int .u64 a4, .int .u64 a5, .int .u64 a6, .int .u64 a7, .slice A' n' c'] 37)).heap.size = wr.heap.size + 1 by simp)
            generalize wr.alloc (.cells #[.int .i64 0, .int .i64 (j : Int), .int .u64 a0, .int .u64 a1, .int .u64 a2, .int .u64 a3, .int .u64 a4, .int .u64 a5, .int .u64 a6, .int .u64 a7, .slice A' n' c'] 37) = ws at HD HQ HC hxx HSZ ⊢
            go_region_held3 (fun w' => w'.heap[wr.heap.size]? = some (.cells #[.int .i64 0, .int .i64 (j : Int), .int .u64 a0, .int .u64 a1, .int .u64 a2, .int .u64 a3, .int .u64 a4, .int .u64 a5, .int .u64 a6, .int .u64 a7, .slice A' n' c'] 37 (0, 0))) (first | exact hxx | exact c3.keep hxx (by have := HWR.out; simp <;> omega) | exact c4.keep (c3.keep hxx (by have := HWR.out; simp <;> omega)) (by have := HWR.out; simp <;> omega))
              (first
                | (go_at_call 11; refine (write_ok _ _ N V j [a0, a1, a2, a3, a4, a5, a6, a7] ys _ (HD.out.keep ((Chg.refl [] ws).drew) (by simp) (by simp)) hj rfl).mono ?_; rintro e w3 ⟨rfl, c3, d3⟩)
                | (go_at_call 12; refine (rwrite_ok _ bq N V j [a0, a1, a2, a3, a4, a5, a6, a7] ys _ ((HQ.out.keep ((Chg.refl [] ws).drew) (by simp) (by simp)).keep c3 (by have := HZ.out; simp; omega) (by have := HZ.out; simp; omega)) hj rfl).mono ?_; rintro e w4 ⟨rfl, c4, d4⟩))
            all_goals
              have D := Lib.hid (d3.keep c4 (by have := HZ.out; simp; omega) (by have := HZ.out; simp; omega))
              have Q := Lib.hid d4
              have C := Lib.hid (((HC.out.drew).trans' c3 (by simp)).trans' c4 (by have := HZ.out; simp; omega))
              clear c3 d3 c4 d4 hxx
              go_wp2_with fail
              obtain ⟨⟨cq, hq1⟩, _⟩ := Q.out
              go_region_held3 (fun w' => w'.heap[w1.heap.size + 1]? = some (.cells #[.slice (some ⟨bq, 0, none⟩) N cq, .int .i64 V] 49 (0, 0))) (first | exact hq1 | exact b4.keep hq1 (by simp) | exact c7.keep (b4.keep hq1 (by simp)) (by simp))
                (first
                  | (go_at_call 20; refine (image_ok _ _ N V (lnPut ys j [a0, a1, a2, a3, a4, a5, a6, a7]) _ (D.out.keep ((Chg.refl [] _).drew) (by simp) (by simp))).mono ?_; rintro e w6 ⟨gi, ci, ri, rfl, b1, b2, b3, b4⟩)
                  | (go_at_call 19; refine (lines_same _ _ _ _ N _ _ (lnPut ys j [a0, a1, a2, a3, a4, a5, a6, a7]) _ (Sl.of_bk b1 (D.out.2.2.1)) (((Q.out.keep ((Chg.refl [] _).drew) (by simp) (by simp)).keep b4 (by simp) (by simp)).sl) (by omega)).mono ?_; rintro e w7 ⟨rfl, c7⟩))
              all_goals
                go_wp2_with fail
                go_roundw
                case rel =>
                  have B := (Chg.refl [] _).drew.trans (b4.trans c7)
                  exact ⟨k + 1, (lnPut ys j [a0, a1, a2, a3, a4, a5, a6, a7]), bq, by omega, by go_num, C.out.trans B, D.out.keep B (by simp) (by simp), Q.out.keep B (by simp) (by simp), HB.out⟩
                case measure => simp [intOf]; omega
          · have HIN := Lib.hid hin
            clear hin hz1 hz2
            go_wp2_with fail
            have HSZ := Lib.hid (show (wr.alloc (.cells #[.int .i64 0, .int .i64 li, .int .u64 a0, .int .u64 a1, .int .u64 a2, .int .u64 a3, .int .u64 a4, .int .u64 a5, .int .u64 a6, .int .u64 a7, .slice A' n' c'] 37)).heap.size = wr.heap.size + 1 by simp)
            generalize wr.alloc (.cells #[.int .i64 0, .int .i64 li, .int .u64 a0, .int .u64 a1, .int .u64 a2, .int .u64 a3, .int .u64 a4, .int .u64 a5, .int .u64 a6, .int .u64 a7, .slice A' n' c'] 37) = ws at HD HQ HC hxx HSZ ⊢
            go_region_held3 (fun w' => w'.heap[wr.heap.size]? = some (.cells #[.int .i64 0, .int .i64 li, .int .u64 a0, .int .u64 a1, .int .u64 a2, .int .u64 a3, .int .u64 a4, .int .u64 a5, .int .u64 a6, .int .u64 a7, .slice A' n' c'] 37 (0, 0))) (first | exact hxx | exact c3.keep hxx (by have := HWR.out; simp <;> omega) | exact c4.keep (c3.keep hxx (by have := HWR.out; simp <;> omega)) (by have := HWR.out; simp <;> omega))
              (first
                | (go_at_call 11; refine (write_out _ _ N V li [a0, a1, a2, a3, a4, a5, a6, a7] ys _ (HD.out.keep ((Chg.refl [] ws).drew) (by simp) (by simp)) HIN.out).mono ?_; rintro e w3 ⟨rfl, c3⟩)
                | (go_at_call 12; refine (rwrite_out _ bq N V li [a0, a1, a2, a3, a4, a5, a6, a7] ys _ ((HQ.out.keep ((Chg.refl [] ws).drew) (by simp) (by simp)).keep c3 (by simp) (by simp)) HIN.out).mono ?_; rintro e w4 ⟨rfl, c4⟩))
            all_goals
              have D := Lib.hid ((HD.out.keep ((Chg.refl [] ws).drew) (by simp) (by simp)).keep (c3.trans c4) (by simp) (by simp))
              have Q := Lib.hid ((HQ.out.keep ((Chg.refl [] ws).drew) (by simp) (by simp)).keep (c3.trans c4) (by simp) (by simp))
              have C := Lib.hid (((HC.out.drew).trans c3).trans c4)
              clear c3 c4 hxx
              go_wp2_with fail
              obtain ⟨⟨cq, hq1⟩, _⟩ := Q.out
              go_region_held3 (fun w' => w'.heap[w1.heap.size + 1]? = some (.cells #[.slice (some ⟨bq, 0, none⟩) N cq, .int .i64 V] 49 (0, 0))) (first | exact hq1 | exact b4.keep hq1 (by simp) | exact c7.keep (b4.keep hq1 (by simp)) (by simp))
                (first
                  | (go_at_call 20; refine (image_ok _ _ N V ys _ (D.out.keep ((Chg.refl [] _).drew) (by simp) (by simp))).mono ?_; rintro e w6 ⟨gi, ci, ri, rfl, b1, b2, b3, b4⟩)
                  | (go_at_call 19; refine (lines_same _ _ _ _ N _ _ ys _ (Sl.of_bk b1 (D.out.2.2.1)) (((Q.out.keep ((Chg.refl [] _).drew) (by simp) (by simp)).keep b4 (by simp) (by simp)).sl) (by omega)).mono ?_; rintro e w7 ⟨rfl, c7⟩))
              all_goals
                go_wp2_with fail
                go_roundw
                case rel =>
                  have B := (Chg.refl [] _).drew.trans (b4.trans c7)
                  exact ⟨k + 1, ys, bq, by omega, by go_num, C.out.trans B, D.out.keep B (by simp) (by simp), Q.out.keep B (by simp) (by simp), HB.out⟩
                case measure => simp [intOf]; omega
        have t2 : (kd == 0) = false := by simpa using k0
        by_cases k1 : kd = 1
        · subst k1
          by_cases hin : 0 ≤ li ∧ li < N
          · obtain ⟨j, rfl⟩ := Int.eq_ofNat_of_zero_le hin.1
            have hj : j < N := by omega
            clear hin hz1 hz2
            go_wp2_with fail
            have HSZ := Lib.hid (show (wr.alloc (.cells #[.int .i64 1, .int .i64 (j : Int), .int .u64 a0, .int .u64 a1, .int .u64 a2, .int .u64 a3, .int .u64 a4, .int .u64 a5, .int .u64 a6, .int .u64 a7, .slice A' n' c'] 37)).heap.size = wr.heap.size + 1 by simp)
            generalize wr.alloc (.cells #[.int .i64 1, .int .i64 (j : Int), .int .u64 a0, .int .u64 a1, .int .u64 a2, .int .u64 a3, .int .u64 a4, .int .u64 a5, .int .u64 a6, .int .u64 a7, .slice A' n' c'] 37) = ws at HD HQ HC hxx HSZ ⊢
            refine (read_ok _ _ N V j ys _ HD.out hj).mono ?_
            rintro e w3 ⟨rfl, c3, d3⟩
            have hx3 := c3.keep hxx (by have := HWR.out; simp; omega)
            have ox3 := old hx3
            have hl := ln_length ys j (by rw [HD.out.2.2.1]; unfold Fit; omega)
            go_wp2_with fail
            have q3 := (HQ.out.keep c3 (by have := HZ.out; simp; omega) (by have := HZ.out; simp; omega)).keep ((Chg.refl [] w3).alloc (.cells (vs (ln ys j)) 34)) (by simp) (by simp)
            have d3' := Lib.hid ((d3).keep ((Chg.refl [] w3).alloc (.cells (vs (ln ys j)) 34)) (by simp) (by simp))
            have hx3' : (w3.alloc (.cells (vs (ln ys j)) 34)).heap[wr.heap.size]? = some (.cells #[.int .i64 1, .int .i64 (j : Int), .int .u64 a0, .int .u64 a1, .int .u64 a2, .int .u64 a3, .int .u64 a4, .int .u64 a5, .int .u64 a6, .int .u64 a7, .slice A' n' c'] 37 (0, 0)) := by simp [hx3]
            have hm3 : (w3.alloc (.cells (vs (ln ys j)) 34)).heap[w3.heap.size]? = some (.cells (vs (ln ys j)) 34 (0, 0)) := by simp
            have C3 := Lib.hid (((HC.out.trans' c3 (by simp))).alloc (.cells (vs (ln ys j)) 34))
            generalize w3.alloc (.cells (vs (ln ys j)) 34) = w4 at q3 d3' hx3' hm3 C3 ⊢
            refine (rread_ok _ bq N V j ys _ q3 hj).mono ?_
            rintro e w5 ⟨rfl, c5⟩
            have om5 := old (c5.keep hm3 (by simp))
            have hm5 := c5.keep hm3 (by simp)
            have D := Lib.hid ((d3'.out.keep c5 (by simp) (by simp)).keep ((Chg.refl [] w5).alloc (.cells (vs (ln ys j)) 34)) (by simp) (by simp))
            have Q := Lib.hid ((q3.keep c5 (by simp) (by simp)).keep ((Chg.refl [] w5).alloc (.cells (vs (ln ys j)) 34)) (by simp) (by simp))
            have C := Lib.hid ((C3.out.trans c5).alloc (.cells (vs (ln ys j)) 34))
            clear c3 d3 c5 q3 hx3 hx3' hm3 ox3 hxx
            go_wp2_with fail
            obtain ⟨⟨cq, hq1⟩, _⟩ := Q.out
            go_region_held3 (fun w' => w'.heap[w1.heap.size + 1]? = some (.cells #[.slice (some ⟨bq, 0, none⟩) N cq, .int .i64 V] 49 (0, 0))) (first | exact hq1 | exact b4.keep hq1 (by simp) | exact c7.keep (b4.keep hq1 (by simp)) (by simp))
              (first
                | (go_at_call 20; refine (image_ok _ _ N V ys _ (D.out.keep ((Chg.refl [] _).drew) (by simp) (by simp))).mono ?_; rintro e w6 ⟨gi, ci, ri, rfl, b1, b2, b3, b4⟩)
                | (go_at_call 19; refine (lines_same _ _ _ _ N _ _ ys _ (Sl.of_bk b1 (D.out.2.2.1)) (((Q.out.keep ((Chg.refl [] _).drew) (by simp) (by simp)).keep b4 (by simp) (by simp)).sl) (by omega)).mono ?_; rintro e w7 ⟨rfl, c7⟩))
            all_goals
              go_wp2_with fail
              go_roundw
              case rel =>
                have B := (Chg.refl [] _).drew.trans (b4.trans c7)
                exact ⟨k + 1, ys, bq, by omega, by go_num, C.out.trans B, D.out.keep B (by simp) (by simp), Q.out.keep B (by simp) (by simp), HB.out⟩
              case measure => simp [intOf]; omega
          · have HIN := Lib.hid hin
            clear hin hz1 hz2
            go_wp2_with fail
            have HSZ := Lib.hid (show (wr.alloc (.cells #[.int .i64 1, .int .i64 li, .int .u64 a0, .int .u64 a1, .int .u64 a2, .int .u64 a3, .int .u64 a4, .int .u64 a5, .int .u64 a6, .int .u64 a7, .slice A' n' c'] 37)).heap.size = wr.heap.size + 1 by simp)
            generalize wr.alloc (.cells #[.int .i64 1, .int .i64 li, .int .u64 a0, .int .u64 a1, .int .u64 a2, .int .u64 a3, .int .u64 a4, .int .u64 a5, .int .u64 a6, .int .u64 a7, .slice A' n' c'] 37) = ws at HD HQ HC hxx HSZ ⊢
            refine (read_out _ _ N V li ys _ HD.out HIN.out).mono ?_
            rintro e w3 ⟨rfl, c3⟩
            have hx3 := c3.keep hxx (by simp)
            have ox3 := old hx3
            have he := fun W => line_eq zero8 zero8 rfl rfl W
            go_wp2_with fail
            have q3 := (HQ.out.keep c3 (by simp) (by simp)).keep ((Chg.refl [] w3).alloc (.cells (vs zero8) 34)) (by simp) (by simp)
            have d3' := Lib.hid ((HD.out.keep c3 (by simp) (by simp)).keep ((Chg.refl [] w3).alloc (.cells (vs zero8) 34)) (by simp) (by simp))
            have hx3' : (w3.alloc (.cells (vs zero8) 34)).heap[wr.heap.size]? = some (.cells #[.int .i64 1, .int .i64 li, .int .u64 a0, .int .u64 a1, .int .u64 a2, .int .u64 a3, .int .u64 a4, .int .u64 a5, .int .u64 a6, .int .u64 a7, .slice A' n' c'] 37 (0, 0)) := by simp [hx3]
            have hm3 : (w3.alloc (.cells (vs zero8) 34)).heap[w3.heap.size]? = some (.cells (vs zero8) 34 (0, 0)) := by simp
            have C3 := Lib.hid (((HC.out.trans' c3 (by simp))).alloc (.cells (vs zero8) 34))
            generalize w3.alloc (.cells (vs zero8) 34) = w4 at q3 d3' hx3' hm3 C3 ⊢
            refine (rread_out _ bq N V li ys _ q3 HIN.out).mono ?_
            rintro e w5 ⟨rfl, c5⟩
            have om5 := old (c5.keep hm3 (by simp))
            have hm5 := c5.keep hm3 (by simp)
            have D := Lib.hid ((d3'.out.keep c5 (by simp) (by simp)).keep ((Chg.refl [] w5).alloc (.cells (vs zero8) 34)) (by simp) (by simp))
            have Q := Lib.hid ((q3.keep c5 (by simp) (by simp)).keep ((Chg.refl [] w5).alloc (.cells (vs zero8) 34)) (by simp) (by simp))
            have C := Lib.hid ((C3.out.trans c5).alloc (.cells (vs zero8) 34))
            clear c3 c5 q3 hx3 hx3' hm3 ox3 hxx
            go_wp2_with fail
            obtain ⟨⟨cq, hq1⟩, _⟩ := Q.out
            go_region_held3 (fun w' => w'.heap[w1.heap.size + 1]? = some (.cells #[.slice (some ⟨bq, 0, none⟩) N cq, .int .i64 V] 49 (0, 0))) (first | exact hq1 | exact b4.keep hq1 (by simp) | exact c7.keep (b4.keep hq1 (by simp)) (by simp))
              (first
                | (go_at_call 20; refine (image_ok _ _ N V ys _ (D.out.keep ((Chg.refl [] _).drew) (by simp) (by simp))).mono ?_; rintro e w6 ⟨gi, ci, ri, rfl, b1, b2, b3, b4⟩)
                | (go_at_call 19; refine (lines_same _ _ _ _ N _ _ ys _ (Sl.of_bk b1 (D.out.2.2.1)) (((Q.out.keep ((Chg.refl [] _).drew) (by simp) (by simp)).keep b4 (by simp) (by simp)).sl) (by omega)).mono ?_; rintro e w7 ⟨rfl, c7⟩))
            all_goals
              go_wp2_with fail
              go_roundw
              case rel =>
                have B := (Chg.refl [] _).drew.trans (b4.trans c7)
                exact ⟨k + 1, ys, bq, by omega, by go_num, C.out.trans B, D.out.keep B (by simp) (by simp), Q.out.keep B (by simp) (by simp), HB.out⟩
              case measure => simp [intOf]; omega
        have t3 : (kd == 1) = false := by simpa using k1
        by_cases k2 : kd = 2
        · subst k2
          clear hz1 hz2
          go_wp2_with fail
          have HSZ := Lib.hid (show (wr.alloc (.cells #[.int .i64 2, .int .i64 li, .int .u64 a0, .int .u64 a1, .int .u64 a2, .int .u64 a3, .int .u64 a4, .int .u64 a5, .int .u64 a6, .int .u64 a7, .slice A' n' c'] 37)).heap.size = wr.heap.size + 1 by simp)
          generalize wr.alloc (.cells #[.int .i64 2, .int .i64 li, .int .u64 a0, .int .u64 a1, .int .u64 a2, .int .u64 a3, .int .u64 a4, .int .u64 a5, .int .u64 a6, .int .u64 a7, .slice A' n' c'] 37) = ws at HD HQ HC hxx HSZ ⊢
          refine (fail_ok _ _ N V ys _ HD.out).mono ?_
          rintro e w3 ⟨rfl, c3, d3⟩
          go_wp2_with fail
          refine (rfail_ok _ bq N V ys _ (HQ.out.keep c3 (by have := HZ.out; simp; omega) (by have := HZ.out; simp; omega))).mono ?_
          rintro e w4 ⟨rfl, c4, d4⟩
          have D := Lib.hid (d3.keep c4 (by have := HZ.out; simp; omega) (by have := HZ.out; simp; omega))
          have Q := Lib.hid d4
          have C := Lib.hid ((HC.out.trans' c3 (by simp)).trans' c4 (by have := HZ.out; simp; omega))
          clear c3 d3 c4 d4 hxx
          go_wp2_with fail
          obtain ⟨⟨cq, hq1⟩, _⟩ := Q.out
          go_region_held3 (fun w' => w'.heap[w1.heap.size + 1]? = some (.cells #[.slice (some ⟨bq, 0, none⟩) N cq, .int .i64 V] 49 (0, 0))) (first | exact hq1 | exact b4.keep hq1 (by simp) | exact c7.keep (b4.keep hq1 (by simp)) (by simp))
            (first
              | (go_at_call 20; refine (image_ok _ _ N V (forget ys V) _ (D.out.keep ((Chg.refl [] _).drew) (by simp) (by simp))).mono ?_; rintro e w6 ⟨gi, ci, ri, rfl, b1, b2, b3, b4⟩)
              | (go_at_call 19; refine (lines_same _ _ _ _ N _ _ (forget ys V) _ (Sl.of_bk b1 (D.out.2.2.1)) (((Q.out.keep ((Chg.refl [] _).drew) (by simp) (by simp)).keep b4 (by simp) (by simp)).sl) (by omega)).mono ?_; rintro e w7 ⟨rfl, c7⟩))
          all_goals
            go_wp2_with fail
            go_roundw
            case rel =>
              have B := (Chg.refl [] _).drew.trans (b4.trans c7)
              exact ⟨k + 1, (forget ys V), bq, by omega, by go_num, C.out.trans B, D.out.keep B (by simp) (by simp), Q.out.keep B (by simp) (by simp), HB.out⟩
            case measure => simp [intOf]; omega
        have t4 : (kd == 2) = false := by simpa using k2
        by_cases k3 : kd = 3
        · subst k3
          clear hz1 hz2
          have hsz : (wr.alloc (.cells #[.int .i64 3, .int .i64 li, .int .u64 a0, .int .u64 a1, .int .u64 a2, .int .u64 a3, .int .u64 a4, .int .u64 a5, .int .u64 a6, .int .u64 a7, .slice A' n' c'] 37)).heap.size = wr.heap.size + 1 := by simp
          obtain ⟨gi, ci, ri, wi, hcl, hgi, hge, hci⟩ := clone_any (wr.alloc (.cells #[.int .i64 3, .int .i64 li, .int .u64 a0, .int .u64 a1, .int .u64 a2, .int .u64 a3, .int .u64 a4, .int .u64 a5, .int .u64 a6, .int .u64 a7, .slice A' n' c'] 37)) A' n' c' zs (HZS.out.chg HC.out (by simp)) (by omega)
          have HCL := Lib.hid hcl
          have HGI := Lib.hid hgi
          have HCI := Lib.hid hci
          have HGE := Lib.hid hge
          clear hcl hgi hci hge
          have HSZ := Lib.hid hsz
          have hcl := HCL.out
          rw [hsz] at hcl
          clear hsz
          go_wp2_with fail
          have hx4 := HCI.out.keep hxx (by simp)
          have D4 := Lib.hid (HD.out.keep HCI.out (by simp) (by simp))
          have Q4 := Lib.hid (HQ.out.keep HCI.out (by simp) (by simp))
          have C4 := Lib.hid (HC.out.trans HCI.out)
          have hg : wr.heap.size < gi := by have := HGE.out; have := HSZ.out; omega
          have HG := Lib.hid (show W.heap.size + 1 < gi ∧ w1.heap.size + 1 < gi ∧ bq < gi by have := HWR.out; omega)
          have s1 := Lib.hid (Sl.of_bk (n := n') HGI.out (by simpa using HZS.out.1))
          have s2 := Lib.hid (HZS.out.chg C4.out (by simp))
          have hgx := HGI.out
          clear hcl HD HQ HC HCL hxx HCI
          have hn64 : (N : Int) ≤ 64 := by omega
          by_cases hnN : n' = N
          · have hnN' : N = n' := hnN.symm
            subst hnN'
            have HA := Lib.hid (show ∀ a, A' = some a → a.block ∉ [W.heap.size] from fun a h => by
              rcases HZS.out.2 with h0 | ⟨b2, o2, c2, t2, f2, e2, hb2, _⟩
              · omega
              · rw [h] at e2
                injection e2 with e2
                subst e2
                have := (old hb2).lt
                simp; omega)
            clear hnN
            go_region_held3 (fun w' => w'.heap[wr.heap.size]? = some (.cells #[.int .i64 3, .int .i64 li, .int .u64 a0, .int .u64 a1, .int .u64 a2, .int .u64 a3, .int .u64 a4, .int .u64 a5, .int .u64 a6, .int .u64 a7, .slice A' N c'] 37 (0, 0))) (first | exact hx4 | exact c5.keep hx4 (by have := HWR.out; simp; omega) | exact c6.keep (c5.keep hx4 (by have := HWR.out; simp; omega)) (by have := HWR.out; simp; omega))
              (first
                | (go_at_call 17; refine (restore_ok _ _ _ V ys zs _ ci _ (D4.out.keep ((Chg.refl [] wi).drew) (by simp) (by simp)) (s1.out.chg ((Chg.refl [] wi).drew) (by simp))).mono ?_; rintro e w5 ⟨rfl, c5, d5⟩)
                | (go_at_call 18; refine (rrestore_ok _ bq _ V ys zs A' c' _ ((Q4.out.keep ((Chg.refl [] wi).drew) (by simp) (by simp)).keep c5 (by have := HZ.out; simp; omega) (by have := HZ.out; simp; omega)) (s2.out.chg (((Chg.refl [W.heap.size] wi).drew).trans c5) HA.out)).mono ?_; rintro e w6 ⟨rfl, bq', hbq', c6, d6⟩))
            all_goals
              have H7 := Lib.hid (c6.keep (c5.keep hgx (by have := HG.out; simp; omega)) (by have := HG.out; simp; omega))
              have hbb := (old (d5.1.choose_spec.choose_spec)).lt
              have D7 := Lib.hid (d5.keep c6 (by have := HZ.out; simp; omega) (by have := HZ.out; simp; omega))
              have Q7 := Lib.hid d6
              have C7 := Lib.hid (((C4.out.drew).trans' c5 (by simp)).trans' c6 (by have := HZ.out; simp; omega))
              have hgi5 := (old (c5.keep hgx (by have := HG.out; simp; omega))).lt
              have HG7 := Lib.hid (show W.heap.size + 1 < gi ∧ w1.heap.size + 1 < gi ∧ gi ≠ bq' from ⟨HG.out.1, HG.out.2.1, by omega⟩)
              have HB' := Lib.hid (show w1.heap.size ≤ bq' by have := HG.out; omega)
              clear c5 c6 d5 d6 hx4 hgx hgi5 hbb hbq'
              go_wp2_with fail
              go_loopw [20] (fun i wz => ∃ (q : Nat) (us : List Int), q ≤ N ∧ i = .int .i64 q ∧ Chg [gi] w6 wz ∧ us.length = N * 8 ∧ wz.heap[gi]? = some (.cells (bk us ri) 34 (0, 0))) (fun i _ => N - (intOf i).toNat)
              case atStart => exact ⟨0, zs, by omega, rfl, Chg.refl _ _, by simpa using HZS.out.1, H7.out⟩
              case round =>
                obtain ⟨q, us, hq1, rfl, hq2, hq3, hq4⟩ := hrel
                by_cases hqn : q < N
                · have fit : Fit (q * 8) 8 us.length := by rw [hq3]; unfold Fit; omega
                  have rp := rowPut_bk (xs := us) (l := [99, 0, 0, 0, 0, 0, 0, 0]) (i := q) fit ri 34 (0, 0)
                  have rh := rowHas_bk (xs := us) (i := q) fit ri 34
                  have hlen := Lib.hid (lnPut_length us q [99, 0, 0, 0, 0, 0, 0, 0] fit rfl)
                  have e3 := Lib.hid hq3
                  have og := old hq4
                  have p1 : (q : Int) < (N : Int) := by omega
                  have p0 : (0 : Int) ≤ (q : Int) := by omega
                  clear fit hq3
                  go_wp2_with fail
                  go_roundw
                  case rel => exact ⟨q + 1, lnPut us q [99, 0, 0, 0, 0, 0, 0, 0], by omega, by go_num, hq2.putRow _ _ _ (.inl (by simp)), hlen.out.trans e3.out, by simp [*]⟩
                  case measure => simp [intOf]; omega
                · have t9 : decide (q < N) = false := by simpa using hqn
                  have D := Lib.hid (D7.out.keep hq2 (by have := HG7.out; simp; omega) (by have := HG7.out; simp; omega))
                  have Q := Lib.hid (Q7.out.keep hq2 (by have := HG7.out; simp; omega) (by have := HG7.out; simp; omega))
                  have C := Lib.hid (C7.out.trans' hq2 (by have := HG7.out; simp; omega))
                  clear hq2 hq4 hq3
                  go_wp2_with fail
                  obtain ⟨⟨cq, hq1⟩, _⟩ := Q.out
                  go_region_held3 (fun w' => w'.heap[w1.heap.size + 1]? = some (.cells #[.slice (some ⟨bq', 0, none⟩) N cq, .int .i64 V] 49 (0, 0))) (first | exact hq1 | exact b4.keep hq1 (by simp) | exact c7.keep (b4.keep hq1 (by simp)) (by simp))
                    (first
                      | (go_at_call 20; refine (image_ok _ _ N V zs _ (D.out.keep ((Chg.refl [] _).drew) (by simp) (by simp))).mono ?_; rintro e w6 ⟨gi, ci, ri, rfl, b1, b2, b3, b4⟩)
                      | (go_at_call 19; refine (lines_same _ _ _ _ N _ _ zs _ (Sl.of_bk b1 (D.out.2.2.1)) (((Q.out.keep ((Chg.refl [] _).drew) (by simp) (by simp)).keep b4 (by simp) (by simp)).sl) (by omega)).mono ?_; rintro e w6 ⟨rfl, c7⟩))
                  all_goals
                    go_wp2_with fail
                    go_roundw
                    case rel =>
                      have B := (Chg.refl [] _).drew.trans (b4.trans c7)
                      exact ⟨k + 1, zs, bq', by omega, by go_num, C.out.trans B, D.out.keep B (by simp) (by simp), Q.out.keep B (by simp) (by simp), HB'.out⟩
                    case measure => simp [intOf]; omega
          · have t8 : (n' != N) = true := by simpa using hnN
            go_region_held3 (fun w' => w'.heap[wr.heap.size]? = some (.cells #[.int .i64 3, .int .i64 li, .int .u64 a0, .int .u64 a1, .int .u64 a2, .int .u64 a3, .int .u64 a4, .int .u64 a5, .int .u64 a6, .int .u64 a7, .slice A' n' c'] 37 (0, 0))) (first | exact hx4 | exact hx4 | exact hx4)
              (first
                | (go_at_call 17; refine (restore_bad _ _ N V ys _ n' ci _ (D4.out.keep ((Chg.refl [] wi).drew) (by simp) (by simp)) hnN).mono ?_; rintro e w5 ⟨rfl, rfl⟩)
                | (go_at_call 18; refine (rrestore_bad _ bq N V ys A' n' c' _ (Q4.out.keep ((Chg.refl [] wi).drew) (by simp) (by simp)) hnN).mono ?_; rintro e w6 ⟨rfl, rfl⟩))
            all_goals
              have H7 := HGI
              have D7 := Lib.hid (D4.out.keep ((Chg.refl [] wi).drew) (by simp) (by simp))
              have Q7 := Lib.hid (Q4.out.keep ((Chg.refl [] wi).drew) (by simp) (by simp))
              have C7 := Lib.hid (C4.out.drew)
              have HG7 := Lib.hid (show W.heap.size + 1 < gi ∧ w1.heap.size + 1 < gi ∧ gi ≠ bq from ⟨HG.out.1, HG.out.2.1, by have := HG.out; omega⟩)
              clear hx4 hgx
              go_wp2_with fail
              go_loopw [20] (fun i wz => ∃ (q : Nat) (us : List Int), q ≤ n' ∧ i = .int .i64 q ∧ Chg [gi] wi.drew wz ∧ us.length = n' * 8 ∧ wz.heap[gi]? = some (.cells (bk us ri) 34 (0, 0))) (fun i _ => n' - (intOf i).toNat)
              case atStart => exact ⟨0, zs, by omega, rfl, Chg.refl _ _, by simpa using HZS.out.1, H7.out⟩
              case round =>
                obtain ⟨q, us, hq1, rfl, hq2, hq3, hq4⟩ := hrel
                by_cases hqn : q < n'
                · have fit : Fit (q * 8) 8 us.length := by rw [hq3]; unfold Fit; omega
                  have rp := rowPut_bk (xs := us) (l := [99, 0, 0, 0, 0, 0, 0, 0]) (i := q) fit ri 34 (0, 0)
                  have rh := rowHas_bk (xs := us) (i := q) fit ri 34
                  have hlen := Lib.hid (lnPut_length us q [99, 0, 0, 0, 0, 0, 0, 0] fit rfl)
                  have e3 := Lib.hid hq3
                  have og := old hq4
                  have p1 : (q : Int) < (n' : Int) := by omega
                  have p0 : (0 : Int) ≤ (q : Int) := by omega
                  clear fit hq3
                  go_wp2_with fail
                  go_roundw
                  case rel => exact ⟨q + 1, lnPut us q [99, 0, 0, 0, 0, 0, 0, 0], by omega, by go_num, hq2.putRow _ _ _ (.inl (by simp)), hlen.out.trans e3.out, by simp [*]⟩
                  case measure => simp [intOf]; omega
                · have t9 : decide (q < n') = false := by simpa using hqn
                  have D := Lib.hid (D7.out.keep hq2 (by have := HG7.out; simp; omega) (by have := HG7.out; simp; omega))
                  have Q := Lib.hid (Q7.out.keep hq2 (by have := HG7.out; simp; omega) (by have := HG7.out; simp; omega))
                  have C := Lib.hid (C7.out.trans' hq2 (by have := HG7.out; simp; omega))
                  clear hq2 hq4 hq3
                  go_wp2_with fail
                  obtain ⟨⟨cq, hq1⟩, _⟩ := Q.out
                  go_region_held3 (fun w' => w'.heap[w1.heap.size + 1]? = some (.cells #[.slice (some ⟨bq, 0, none⟩) N cq, .int .i64 V] 49 (0, 0))) (first | exact hq1 | exact b4.keep hq1 (by simp) | exact c7.keep (b4.keep hq1 (by simp)) (by simp))
                    (first
                      | (go_at_call 20; refine (image_ok _ _ N V ys _ (D.out.keep ((Chg.refl [] _).drew) (by simp) (by simp))).mono ?_; rintro e w6 ⟨gi, ci, ri, rfl, b1, b2, b3, b4⟩)
                      | (go_at_call 19; refine (lines_same _ _ _ _ N _ _ ys _ (Sl.of_bk b1 (D.out.2.2.1)) (((Q.out.keep ((Chg.refl [] _).drew) (by simp) (by simp)).keep b4 (by simp) (by simp)).sl) (by omega)).mono ?_; rintro e wi.drew ⟨rfl, c7⟩))
                  all_goals
                    go_wp2_with fail
                    go_roundw
                    case rel =>
                      have B := (Chg.refl [] _).drew.trans (b4.trans c7)
                      exact ⟨k + 1, ys, bq, by omega, by go_num, C.out.trans B, D.out.keep B (by simp) (by simp), Q.out.keep B (by simp) (by simp), HB.out⟩
                    case measure => simp [intOf]; omega
        have t5 : (kd == 3) = false := by simpa using k3
        clear hz1 hz2
        go_wp2_with fail
        have HSZ := Lib.hid (show (wr.alloc (.cells #[.int .i64 kd, .int .i64 li, .int .u64 a0, .int .u64 a1, .int .u64 a2, .int .u64 a3, .int .u64 a4, .int .u64 a5, .int .u64 a6, .int .u64 a7, .slice A' n' c'] 37)).heap.size = wr.heap.size + 1 by simp)
        generalize wr.alloc (.cells #[.int .i64 kd, .int .i64 li, .int .u64 a0, .int .u64 a1, .int .u64 a2, .int .u64 a3, .int .u64 a4, .int .u64 a5, .int .u64 a6, .int .u64 a7, .slice A' n' c'] 37) = ws at HD HQ HC hxx HSZ ⊢
        have D := HD
        have Q := HQ
        have C := HC
        clear hxx
        go_wp2_with fail
        obtain ⟨⟨cq, hq1⟩, _⟩ := Q.out
        go_region_held3 (fun w' => w'.heap[w1.heap.size + 1]? = some (.cells #[.slice (some ⟨bq, 0, none⟩) N cq, .int .i64 V] 49 (0, 0))) (first | exact hq1 | exact b4.keep hq1 (by simp) | exact c7.keep (b4.keep hq1 (by simp)) (by simp))
          (first
            | (go_at_call 20; refine (image_ok _ _ N V ys _ (D.out.keep ((Chg.refl [] _).drew) (by simp) (by simp))).mono ?_; rintro e w6 ⟨gi, ci, ri, rfl, b1, b2, b3, b4⟩)
            | (go_at_call 19; refine (lines_same _ _ _ _ N _ _ ys _ (Sl.of_bk b1 (D.out.2.2.1)) (((Q.out.keep ((Chg.refl [] _).drew) (by simp) (by simp)).keep b4 (by simp) (by simp)).sl) (by omega)).mono ?_; rintro e w7 ⟨rfl, c7⟩))
        all_goals
          go_wp2_with fail
          go_roundw
          case rel =>
            have B := (Chg.refl [] _).drew.trans (b4.trans c7)
            exact ⟨k + 1, ys, bq, by omega, by go_num, C.out.trans B, D.out.keep B (by simp) (by simp), Q.out.keep B (by simp) (by simp), HB.out⟩
          case measure => simp [intOf]; omega
      · have t1 : decide (k < n) = false := by simpa using hlt
        have HC := Lib.hid hc
        clear hd hq hc
        go_wp2_with (go_at_call 8; refine (wakes_true _).mono ?_; rintro e w2 ⟨rfl, c2⟩)
        go_ret
        exact ⟨rfl, HC.out.trans c2⟩
  · refine (new_bad _ _ W hgood).mono ?_
    rintro e w1 ⟨rfl, rfl⟩
    have HG := Lib.hid hgood
    clear hgood
    go_wp2_with fail
    refine (rnew_bad _ _ _ HG.out).mono ?_
    rintro e w1 ⟨rfl, rfl⟩
    go_wp2_with fail
    go_loop [11] (fun i => i = .int .i64 0) (fun _ => 0)
    case atStart => rfl
    case round =>
      subst hrel
      by_cases h0 : 0 < n
      · have t1 : decide (0 < n) = true := by simpa using h0
        go_wp2_with (go_at_call 8; refine (wakes_true _).mono ?_; rintro e w2 ⟨rfl, c2⟩)
        go_ret
        exact ⟨rfl, c2⟩
      · have t1 : decide (0 < n) = false := by simpa using h0
        go_wp2_with (go_at_call 8; refine (wakes_true _).mono ?_; rintro e w2 ⟨rfl, c2⟩)
        go_ret
        exact ⟨rfl, c2⟩
end Go.Proofs.Ytdeloippchnogaa
