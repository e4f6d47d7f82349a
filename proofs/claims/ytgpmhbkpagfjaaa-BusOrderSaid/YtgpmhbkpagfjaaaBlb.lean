/- BusOrder: walked. No condition. -/
import Derived.Test.YtgpmhbkpagfjaaaBwx
import Derived.Test.YtgpmhbkpagfjaaaBlo
namespace Go.Proofs.Ytgpmhbkpagfjaaa
open Go.RowKit
set_option linter.unusedVariables false
set_option maxHeartbeats 1000000

set_option maxRecDepth 100000
attribute [local go_sem ↓] append_appS copy_copS clear_clrS make_mkS slice_slS lookup_lookS mput_mputS del_mdelS cell_row frozen_row heap_drew heap_drewN heap_alloc heap_past heap_setCell heap_putRow heap_setB loadEv storeEv loadBe storeBe loadSp storeSp loadNw storeNw loadLine storeLine evc_kd evc_co evc_li evc_wo evc_va bec_fl bec_li bec_wo bec_va nwC_0 nwC_1 spC_0 spC_1
attribute [local go_sem] rowCell_some rowFrozen_some rowHas_some rowIn_some rowPart_full rowPart_lit rowPut_full rowPut_lit rowSet_some size_putRow size_setB run_loadS run_storeS run_appS run_copS run_clrS run_mkS run_slS run_lookS run_mputS run_mdelS loadW_at storeW_at fit_all fit_le one_int one_bool one_pointer one_slice allOne_list putRow_new ne_size1 ne_size2 ne_size3 ne_size4 wideEv wideBe wideSp wideNw wideLine evc_size evc_one evc_ne evc_lit evc_z fold_evc bec_size bec_one bec_lit bec_ne bec_at bec_in spC_size spC_one nwC_size nwC_one nwC_ne nwC_set0 nwC_set1 nwC_lit bec_set0 bec_set1 bec_set2 bec_set3 spC_set0 spC_set1 spC_lit fold_spC spC_ne fold_nwC fold_bec fold_at vs_size vs_one ic_size ic_get
attribute [local simp ↓] heap_drew heap_drewN heap_alloc heap_past heap_setCell heap_putRow heap_setB
attribute [local simp] rowCell_some rowFrozen_some rowHas_some rowIn_some rowPart_full rowPart_lit rowPut_full rowPut_lit rowSet_some size_putRow size_setB fit_all putRow_new ne_size1 ne_size2 ne_size3 ne_size4 evc_size bec_size spC_size nwC_size vs_size fit_le
theorem u8_cell {w : World} {b o n j : Nat} {xs : List Int} {x : Int} (hA : Sl w 1 (some ⟨b, o, none⟩) n (xs.map (Value.int .u8))) (hx : xs[j]? = some x) : ∃ c t f, w.heap[b]? = some (.cells c t f) ∧ c[o + j]? = some (.int .u8 x) := by
  have hl : xs.length = n := by simpa using hA.1
  obtain ⟨hj, rfl⟩ := List.getElem?_eq_some_iff.1 hx
  obtain ⟨c, t, f, hb, hc, _⟩ := hA.elem (i := j) (ys := [.int .u8 xs[j]]) (by omega) (by omega) (by
    have h1 := List.drop_eq_getElem_cons (l := xs.map (Value.int .u8)) (i := j) (by simpa using hj)
    rw [Nat.mul_one, h1, List.take_succ_cons, List.take_zero, List.getElem_map])
  exact ⟨c, t, f, hb, by have := hc 0 (by omega); simpa using this⟩
theorem take_one {xs : List Int} {j : Nat} {x : Int} (hx : xs[j]? = some x) : (xs.take (j + 1)).map (· + 1) = (xs.take j).map (· + 1) ++ [x + 1] := by
  obtain ⟨hj, rfl⟩ := List.getElem?_eq_some_iff.1 hx
  rw [List.take_succ_eq_append_getElem hj, List.map_append]; rfl
theorem drop_one {xs : List Int} {j : Nat} {x : Int} (hx : xs[j]? = some x) : (xs.drop j).map (· + 1) = (x + 1) :: (xs.drop (j + 1)).map (· + 1) := by
  obtain ⟨hj, rfl⟩ := List.getElem?_eq_some_iff.1 hx
  rw [List.drop_eq_getElem_cons hj]; rfl
theorem pend_w {W w : World} {q : Nat} {S : Bs} {z : Int} (h : BusW 6 2 W w q S) (hz : ((S.core 0).buf.length : Int) = z) : Calls Try.prog 13 #[.pointer (some ⟨q, 0, none⟩), .int .i64 0] w fun e w' => e = .returned (.int .i64 z) ∧ BusW 6 2 W w' q S := by
  subst hz
  obtain ⟨F, g1, g2⟩ := h
  refine (bpend_ok (i := 0) g1 (by omega)).mono ?_
  rintro e w' ⟨rfl, c⟩
  exact ⟨rfl, BusW.chg ⟨F, g1, g2⟩ c⟩
set_option maxHeartbeats 8000000 in
theorem border_any (A : Option Addr) (N cN : Nat) (xs : List Int) (W : World) (hA : Sl W 1 A N (xs.map (Value.int .u8))) (hN : N ≤ maxLen) (hx : ∀ x ∈ xs, 0 ≤ x ∧ x < 256) :
    Calls Try.prog 6 #[.slice A N cN] W fun e w' => e = .returned (.bool true) ∧ Chg [] W w' := by
  unfold maxLen at hN
  have hlen : xs.length = N := by simpa using hA.1
  have HA := Lib.hid hA
  have HX := Lib.hid hx
  have HL := Lib.hid hlen
  clear hA hx hlen
  go_enter Try.func6, Try.ntmps6
  try dsimp only [List.append]
  go_upto_region 2 with (first | (go_at_call 14; refine (plain_any _).mono ?_; rintro e w1 ⟨rfl, c1⟩; have C1 := Lib.hid c1; clear c1) | (go_at_call 9; refine (new_w 2 6 1 1 2 2 2 rfl _).mono ?_; rintro e w2 ⟨q, rfl, h0⟩; have H0 := Lib.hid (h0.weak C1.out); clear h0))
  by_cases hbad : 40 < N ∨ N = 0
  · have HB := Lib.hid hbad
    have H1 := H0
    rcases hbad with h40 | h0
    · have t0 : (40 : Int) < (N : Int) := by omega
      clear H0 HB
      go_wp2_with (go_at_call 8; refine (wakes_any _).mono ?_; rintro r w6 ⟨rfl, c6⟩; have C6 := Lib.hid c6; clear c6)
      go_ret
      exact ⟨rfl, H1.out.all.trans C6.out⟩
    · subst h0
      clear H0 HB
      go_wp2_with (go_at_call 8; refine (wakes_any _).mono ?_; rintro r w6 ⟨rfl, c6⟩; have C6 := Lib.hid c6; clear c6)
      go_ret
      exact ⟨rfl, H1.out.all.trans C6.out⟩
  have hN1 : N ≤ 40 := by omega
  have hN0 : 0 < N := by omega
  have t0 : ¬ (40 : Int) < (N : Int) := by omega
  have t1 : ((N : Int) == 0) = false := by simp; omega
  have HN0 := Lib.hid hN0
  obtain ⟨b1, o1, rfl⟩ := HA.out.addr hN0
  clear hbad
  go_upto_region 4 with fail
  clear t0 t1
  have HI := Lib.hid H0.out
  clear H0
  go_wp2_with fail
  go_loopw [5] (fun i wr => ∃ (j : Nat) (S : Bs) (last : Int), j ≤ N ∧ i = .int .i64 j ∧ BusW 6 2 W wr q S ∧ S.Ok 6 2 (4 * j) ∧ OrdI S ((xs.take j).map (· + 1)) last 0) (fun i _ => N - (intOf i).toNat)
  case atStart => exact ⟨0, _, 0, by omega, rfl, HI.out, bs0_ok (by omega) (by omega) (by omega) (by omega), ord_start⟩
  case round =>
    clear HI
    obtain ⟨j, S, last, hj, rfl, h1, h2, h3⟩ := hrel
    have H0 := Lib.hid h1
    have O0 := Lib.hid h2
    have I0 := Lib.hid h3
    clear h1 h2 h3
    by_cases hlt : j < N
    · have g1 : (j : Int) < (N : Int) := by omega
      have g0 : (0 : Int) ≤ (j : Int) := by omega
      have g3 : (N : Int) ≤ 40 := by omega
      obtain ⟨x, hxj⟩ : ∃ x, xs[j]? = some x := ⟨xs[j]'(by rw [HL.out]; exact hlt), List.getElem?_eq_getElem _⟩
      obtain ⟨hx0, hx1⟩ := HX.out x (List.mem_of_getElem? hxj)
      obtain ⟨cA, tA, fA, hbA, hcell⟩ := u8_cell (HA.out.chg H0.out.all (by simp)) hxj
      obtain ⟨T1, d1, i1⟩ := ord_issue O0.out I0.out (x + 1)
      have p1 : T1.Ok 6 2 (4 * j + 1) := by have := do_ok O0.out ⟨12, 0, 3, 1, x + 1⟩; rw [d1] at this; exact this
      have hne : (xs.take j).map (· + 1) ++ [x + 1] ≠ [] := by simp
      have d2 := ord_own p1 i1 hne (x + 1)
      rw [if_pos rfl] at d2
      obtain ⟨T2, hT2⟩ : ∃ T2, T2 = lastB T1 ⟨2, 0, 3, 1, x + 1⟩ := ⟨_, rfl⟩
      rw [← hT2] at d2
      have p2 : T2.Ok 6 2 (4 * j + 2) := by have := do_ok p1 ⟨2, 0, 3, 1, x + 1⟩; rw [d2] at this; exact this
      have i2 : OrdI T2 ((xs.take j).map (· + 1) ++ [x + 1]) (x + 1) 0 := by rw [hT2]; exact ord_same p1 i1 _ (i := 0) rfl (by omega) rfl (by decide : ¬ (2 : Int) = 4)
      have d3 := ord_own p2 i2 hne (x + 1 + 1)
      rw [if_neg (by omega)] at d3
      have d4 := ord_load_no p2 i2 hne (x + 1)
      have e1 := Lib.hid d1
      have e2 := Lib.hid d2
      have e3 := Lib.hid d3
      have e4 := Lib.hid d4
      have o1' := Lib.hid p1
      have o2' := Lib.hid p2
      rw [← take_one hxj] at i2
      have I2 := Lib.hid i2
      clear d1 d2 d3 d4 p1 p2 i1 i2 hne hT2 hxj I0
      go_upto_region 8 with fail
      clear hbA hcell
      go_wp2_with (first | (go_at_call 15; refine (at_any _ _ _).mono ?_; rintro e u0 ⟨rfl, c⟩; have K0 := Lib.hid (H0.out.chg c); clear c H0) | (go_at_call 11; refine (do_w K0.out O0.out (by omega) ⟨12, 0, 3, 1, x + 1⟩).mono ?_; rintro e x0 ⟨rfl, h⟩; rw [e1.out] at h ⊢; have H1 := Lib.hid (show BusW 6 2 W x0 q T1 from h); clear h K0) | (go_at_call 15; refine (at_any _ _ _).mono ?_; rintro e u1 ⟨rfl, c⟩; have K1 := Lib.hid (H1.out.chg c); clear c H1) | (go_at_call 11; refine (do_w K1.out o1'.out (by omega) ⟨2, 0, 3, 1, x + 1⟩).mono ?_; rintro e x1 ⟨rfl, h⟩; rw [e2.out] at h ⊢; have H2 := Lib.hid (show BusW 6 2 W x1 q T2 from h); clear h K1) | (go_at_call 15; refine (at_any _ _ _).mono ?_; rintro e u2 ⟨rfl, c⟩; have K2 := Lib.hid (H2.out.chg c); clear c H2) | (go_at_call 11; refine (do_w K2.out o2'.out (by omega) ⟨2, 0, 3, 1, x + 1 + 1⟩).mono ?_; rintro e x2 ⟨rfl, h⟩; rw [e3.out] at h ⊢; have H3 := Lib.hid (show BusW 6 2 W x2 q T2 from h); clear h K2) | (go_at_call 15; refine (at_any _ _ _).mono ?_; rintro e u3 ⟨rfl, c⟩; have K3 := Lib.hid (H3.out.chg c); clear c H3) | (go_at_call 11; refine (do_w K3.out o2'.out (by omega) ⟨1, 0, 3, 1, x + 1⟩).mono ?_; rintro e x3 ⟨rfl, h⟩; rw [e4.out] at h ⊢; have H4 := Lib.hid (show BusW 6 2 W x3 q T2 from h); clear h K3))
      go_roundw
      case measure =>
        show N - ((j : Int) + 1).toNat < N - ((j : Int)).toNat
        omega
      case rel => exact ⟨j + 1, T2, x + 1, by omega, by go_num, H4.out, o2'.out.mono (by omega), I2.out⟩
    · obtain rfl : j = N := by omega
      have hall : (xs.take j).map (· + 1) = (xs.drop 0).map (· + 1) := by rw [List.drop_zero, List.take_of_length_le (by rw [HL.out]; exact Nat.le_refl _)]
      have i0 := I0.out
      rw [hall] at i0
      have I1 := Lib.hid i0
      clear I0 i0 hall
      go_wp2_with fail
      go_loopw [7] (fun i wr => ∃ (k : Nat) (S : Bs) (last cur : Int), k ≤ j ∧ i = .int .i64 k ∧ BusW 6 2 W wr q S ∧ S.Ok 6 2 (4 * j + 2 * k) ∧ OrdI S ((xs.drop k).map (· + 1)) last cur ∧ ∀ y, 0 < k → xs[k - 1]? = some y → cur = y + 1) (fun i _ => j - (intOf i).toNat)
      case atStart => exact ⟨0, S, last, 0, by omega, rfl, H0.out, O0.out, I1.out, fun y h => by omega⟩
      case round =>
        clear H0 O0 I1
        obtain ⟨k, S, last, cur, hk, rfl, h1, h2, h3, h4⟩ := hrel
        have H0 := Lib.hid h1
        have O0 := Lib.hid h2
        have I0 := Lib.hid h3
        have Y0 := Lib.hid h4
        clear h1 h2 h3 h4
        by_cases hlt : k < j
        · have g1 : (k : Int) < (j : Int) := by omega
          have g0 : (0 : Int) ≤ (k : Int) := by omega
          have g3 : (j : Int) ≤ 40 := by omega
          obtain ⟨x, hxj⟩ : ∃ x, xs[k]? = some x := ⟨xs[k]'(by rw [HL.out]; exact hlt), List.getElem?_eq_getElem _⟩
          obtain ⟨hx0, hx1⟩ := HX.out x (List.mem_of_getElem? hxj)
          obtain ⟨cA, tA, fA, hbA, hcell⟩ := u8_cell (HA.out.chg H0.out.all (by simp)) hxj
          have i0 := I0.out
          have hpl : ((S.core 0).buf.length : Int) = (j : Int) - (k : Int) := by
            rw [i0.buf]
            simp only [List.length_map, List.length_drop, HL.out]
            omega
          have HPL := Lib.hid hpl
          rw [drop_one hxj] at i0
          have d1 := ord_store_no O0.out i0 (v := x + 1 + 1) (by omega)
          have d2 := ord_send_no O0.out i0
          obtain ⟨T1, d3, i1⟩ := ord_store O0.out i0
          have p1 : T1.Ok 6 2 (4 * j + 2 * k + 1) := by have := do_ok O0.out ⟨3, 0, 3, 1, x + 1⟩; rw [d3] at this; exact this
          have d4 := ord_load_other p1 i1
          obtain ⟨T2, hT2⟩ : ∃ T2, T2 = lastB T1 ⟨1, 1, 3, 1, x + 1⟩ := ⟨_, rfl⟩
          rw [← hT2] at d4
          have p2 : T2.Ok 6 2 (4 * j + 2 * k + 2) := by have := do_ok p1 ⟨1, 1, 3, 1, x + 1⟩; rw [d4] at this; exact this
          have i2 : OrdI T2 ((xs.drop (k + 1)).map (· + 1)) last (x + 1) := by rw [hT2]; exact ord_same p1 i1 _ (i := 1) rfl (by omega) rfl (by decide : ¬ (1 : Int) = 4)
          have e1 := Lib.hid d1
          have e2 := Lib.hid d2
          have e3 := Lib.hid d3
          have e4 := Lib.hid d4
          have o1' := Lib.hid p1
          have o2' := Lib.hid p2
          have I2 := Lib.hid i2
          have XJ := Lib.hid hxj
          clear d1 d2 d3 d4 p1 p2 i0 i1 i2 hT2 hxj I0 hpl Y0
          go_upto_region 14 with fail
          clear hbA hcell
          go_upto_region 16 with (first | (go_at_call 13; refine (pend_w H0.out HPL.out).mono ?_; rintro e y3 ⟨rfl, h⟩; have H0' := Lib.hid h; clear h H0 HPL; have H0 := H0'; clear H0') | (go_at_call 15; refine (at_any _ _ _).mono ?_; rintro e u0 ⟨rfl, c⟩; have K0 := Lib.hid (H0.out.chg c); clear c H0) | (go_at_call 11; refine (do_w K0.out O0.out (by omega) ⟨3, 0, 3, 1, x + 1 + 1⟩).mono ?_; rintro e x0 ⟨rfl, h⟩; rw [e1.out] at h ⊢; have H1 := Lib.hid (show BusW 6 2 W x0 q S from h); clear h K0) | (go_at_call 15; refine (at_any _ _ _).mono ?_; rintro e u1 ⟨rfl, c⟩; have K1 := Lib.hid (H1.out.chg c); clear c H1) | (go_at_call 11; refine (do_w K1.out O0.out (by omega) ⟨13, 0, 3, 1, 0⟩).mono ?_; rintro e x1 ⟨rfl, h⟩; rw [e2.out] at h ⊢; have H2 := Lib.hid (show BusW 6 2 W x1 q S from h); clear h K1) | (go_at_call 15; refine (at_any _ _ _).mono ?_; rintro e u2 ⟨rfl, c⟩; have K2 := Lib.hid (H2.out.chg c); clear c H2) | (go_at_call 11; refine (do_w K2.out O0.out (by omega) ⟨3, 0, 3, 1, x + 1⟩).mono ?_; rintro e x2 ⟨rfl, h⟩; rw [e3.out] at h ⊢; have H3 := Lib.hid (show BusW 6 2 W x2 q T1 from h); clear h K2))
          go_upto_region 17 with (go_at_call 15; refine (at_any _ _ _).mono ?_; rintro e u9 ⟨rfl, c⟩; have K9 := Lib.hid (H3.out.chg c); clear c H3)
          have hn : (u9.alloc (.cells (evc ⟨1, 0, 3, 1, x + 1⟩) 38)).heap[u9.heap.size]? = some (.cells (evc ⟨1, 0, 3, 1, x + 1⟩) 38 (0, 0)) := (MapKept.heap_alloc u9 _).1
          have K8 := Lib.hid ((Chg.refl [] u9).alloc (.cells (evc ⟨1, 0, 3, 1, x + 1⟩) 38))
          have L8 := Lib.hid (Nat.le_refl u9.heap.size)
          generalize u9.alloc (.cells (evc ⟨1, 0, 3, 1, x + 1⟩) 38) = w8 at *
          generalize hp9 : u9.heap.size = p9 at *
          go_upto_region 18 with fail
          have hev : (w8.setCell ⟨p9, 1, none⟩ (.int .i64 1)).heap[p9]? = some (.cells (evc ⟨1, 1, 3, 1, x + 1⟩) 38 (0, 0)) := by
            rw [heap_setCell, if_pos rfl, hn, rowSet_some, evc_set1]
          have K10 := Lib.hid (K9.out.chg (K8.out.setCell p9 1 (.int .i64 1) (.inr (by rw [hp9]; exact Nat.le_refl _))))
          generalize w8.setCell ⟨p9, 1, none⟩ (.int .i64 1) = w9 at *
          clear hn K8 L8 hp9
          clear K9
          go_wp2_with (go_at_call 11; refine (do_w K10.out o1'.out (by omega) ⟨1, 1, 3, 1, x + 1⟩).mono ?_; rintro e x9 ⟨rfl, h⟩; rw [e4.out] at h ⊢; have H9 := Lib.hid (show BusW 6 2 W x9 q T2 from h); clear h K10)
          go_roundw
          case measure =>
            show j - ((k : Int) + 1).toNat < j - ((k : Int)).toNat
            omega
          case rel => exact ⟨k + 1, T2, last, x + 1, by omega, by go_num, H9.out, o2'.out.mono (by omega), I2.out, fun y _ hy => by rw [Nat.add_sub_cancel, XJ.out] at hy; cases hy; rfl⟩
        · obtain rfl : k = j := by omega
          have hx0' : k - 1 < xs.length := by rw [HL.out]; omega
          have hxj : xs[k - 1]? = some xs[k - 1] := List.getElem?_eq_getElem _
          have hc := Y0.out _ HN0.out hxj
          generalize xs[k - 1] = x at *
          obtain ⟨hx0, hx1⟩ := HX.out x (List.mem_of_getElem? hxj)
          have i0 := I0.out
          rw [List.drop_of_length_le (by rw [HL.out]; exact Nat.le_refl _), hc] at i0
          have hpl : ((S.core 0).buf.length : Int) = 0 := by rw [i0.buf]; rfl
          have HPL := Lib.hid hpl
          have e1 := Lib.hid (ord_load_yes O0.out i0)
          have XJ := Lib.hid hxj
          have hk : ((k : Int) - 1).toNat = k - 1 := by omega
          clear hpl i0 hc I0 Y0 hx0' hxj
          go_wp2_with (first | (go_at_call 13; refine (pend_w H0.out HPL.out).mono ?_; rintro e y3 ⟨rfl, h⟩; obtain ⟨cA, tA, fA, hbA, hcell⟩ := u8_cell (HA.out.chg h.all (by simp)) XJ.out; have H0' := Lib.hid h; clear h H0 HPL; have H0 := H0'; clear H0') | (go_at_call 15; refine (at_any _ _ _).mono ?_; rintro e u0 ⟨rfl, c⟩; have K0 := Lib.hid (H0.out.chg c); clear c H0) | (go_at_call 11; refine (do_w K0.out O0.out (by omega) ⟨1, 0, 3, 1, x + 1⟩).mono ?_; rintro e x0 ⟨rfl, h⟩; rw [e1.out] at h ⊢; have H1 := Lib.hid (show BusW 6 2 W x0 q (lastB S ⟨1, 0, 3, 1, x + 1⟩) from h); clear h K0) | (go_at_call 8; refine (wakes_any _).mono ?_; rintro r w6 ⟨rfl, c6⟩; have C6 := Lib.hid c6; clear c6))

          go_ret
          exact ⟨rfl, H1.out.all.trans C6.out⟩
end Go.Proofs.Ytgpmhbkpagfjaaa
