/- Dirh: walked. No condition. -/
import Derived.Test.YtkaabiiedfkaaaaDoorDirp
import Derived.Test.YtkaabiiedfkaaaaDoorDirg
import Derived.BigQuiet
import Derived.Deep.QuietTactic
namespace Go.Proofs.YtkaabiiedfkaaaaDoor
open Go.RowKit
set_option linter.unusedVariables false
set_option maxHeartbeats 1000000
attribute [local go_sem ↓] append_appS copy_copS clear_clrS make_mkS slice_slS cell_row frozen_row loadLine storeLine loadMsg storeMsg heap_drew heap_drewN heap_alloc heap_past heap_setCell heap_putRow vs_get msc_kd msc_li msc_di msc_ke
attribute [local go_sem] rowCell_some rowFrozen_some rowHas_some rowIn_some rowPart_full rowPart_lit rowPut_full rowPut_lit rowSet_some size_putRow vs_size vs_one wideLine wideMsg run_loadS run_storeS run_appS run_copS run_clrS run_mkS run_slS loadW_at storeW_at fit_all fit_le one_int one_bool one_pointer one_slice allOne_list putRow_new ne_size1 ne_size2 ne_size3 ne_size4 zero8_length line_eq lit8 msc_size msc_one msc_part msc_in fold_msc
attribute [local simp ↓] heap_drew heap_drewN heap_alloc heap_past heap_setCell heap_putRow
attribute [local simp] rowCell_some rowFrozen_some rowHas_some rowIn_some rowPart_full rowPart_lit rowPut_full rowPut_lit rowSet_some size_putRow vs_size fit_all putRow_new ne_size1 ne_size2 ne_size3 ne_size4 zero8_length msc_size
attribute [local go_sem ↓] ec_he ec_di ec_ow ec_sh ec_bu ec_by ec_wa sc_to
attribute [local go_sem] mi_and mi_or mi_not mi_beq0 mi_bne0 ec_size ec_one ec_part ec_in ec_has ec_setDi ec_setOw ec_setSh ec_setBu ec_setBy ec_setWa ec_setSh0 ec_setWa0 ec_putM sc_size sc_one sc_part sc_in
attribute [local simp] ec_size sc_size ec_setDi ec_setOw ec_setSh ec_setBu ec_setBy ec_setWa ec_setSh0 ec_setWa0 ec_putM
attribute [local go_sem ↓] loadEn storeEn loadSd storeSd en_z0
attribute [local go_sem] wideEn wideSd fold_sc size11 putRow_newB putRow_newC ms5_lit
attribute [local simp] en_z0 putRow_newB putRow_newC fit_le ec_has
attribute [local go_sem ↓] loadEnR storeEnR loadSdR storeSdR
attribute [local go_sem] wideEnR wideSdR
attribute [local go_sem] ec_setHe ec_foldL


set_option maxHeartbeats 8000000 in
set_option maxRecDepth 100000 in
theorem dfits_any (a : En) (ss : List Sd) (A : Option Addr) (n : Nat) (w : World) (hF : Fit7 (a, ss)) (hS : Sl w 13 A ss.length (cat Sd.enc ss)) (h8 : ss.length ≤ 8) : Calls Tryd.prog 25 #[.agg (ec a), .slice A ss.length n] w fun e w' => e = .returned (.bool true) ∧ Chg [] w w' := by
  have HF := Lib.hid hF
  have g1 : goodE a = true := hF.2.1
  have hG := ((good_here (e := a) hF.1).1 hF.2.1).1
  have hsh : decide (0 ≤ a.ow) = false ∨ (decide (0 ≤ a.ow) = true ∧ (a.sh != 0#8) = false) := by
    rcases hG with h | ⟨h, h2⟩
    · left; simp [h]
    · right; refine ⟨by simp [isC] at h; simp; omega, by simp [h2]⟩
  clear hF hG
  have HS0 := Lib.hid hS
  clear hS
  go_enter Tryd.func25, Tryd.ntmps25
  try dsimp only [List.append]
  go_wp2_with fail
  refine gen_calls1 (w := w) (b1 := w.heap.size) (x1 := .cells (ec (a)) 26 (0, 0)) (by (repeat' (first | with_reducible exact Chg.refl _ _ | with_reducible assumption | with_reducible refine Chg.drew ?_ | with_reducible refine Chg.drewN ?_ _ | with_reducible refine Chg.alloc ?_ _ | with_reducible refine Chg.putRow ?_ _ _ _ (.inr ?_) | with_reducible refine Chg.setCell ?_ _ _ _ (.inr ?_)  | (show _ ≤ _; first | exact Nat.le_refl _ | omega | (simp; done))))) (by simp [*]) fun w1 C1 rE => ?_
  have oE := old rE
  have HC1 := Lib.hid C1
  have HS1 := Lib.hid (HS0.out.chg C1 (by simp))
  clear HS0 C1
  refine (down_any a w1).mono ?_
  rintro e w2 ⟨rfl, c2⟩
  replace rE := c2.keep rE (by simp)
  replace HS1 := Lib.hid (HS1.out.chg c2 (by simp))
  have C2 := Lib.hid (HC1.out.trans c2)
  clear c2 HC1 oE
  have oE := old rE
  go_wp2_with fail
  refine (down_at a _ g1 w2).mono ?_
  rintro e w3 ⟨rfl, c3⟩
  replace rE := c3.keep rE (by simp)
  replace HS1 := Lib.hid (HS1.out.chg c3 (by simp))
  have C3 := Lib.hid (C2.out.trans c3)
  clear c3 C2 oE
  have oE := old rE
  have HS := HS1
  have HE := Lib.hid rE
  clear HS1
  rcases hsh with t0 | ⟨t0, t1⟩
  all_goals
    go_wp2_with fail
    go_loopw [5, 6] (fun i u wr => ∃ k : Nat, k ≤ ss.length ∧ i = .int .i64 k ∧ Chg [] w3 wr) (fun i _ _ => ss.length - (intOf i).toNat)
    case atStart => exact ⟨0, by omega, rfl, Chg.refl _ _⟩
    case round =>
      obtain ⟨k, hk, rfl, hc⟩ := hrel
      by_cases hlt : k < ss.length
      · skip
        obtain ⟨s, hs⟩ : ∃ s, ss[k]? = some s := ⟨ss[k]'hlt, List.getElem?_eq_getElem hlt⟩
        have hok := HF.out.2.2 s (List.mem_of_getElem? hs)
        obtain ⟨b, o, cs, tt, ff, rfl, hb, i0, i1, i2, hp⟩ := (HS.out.chg hc (by simp)).sd hs
        obtain ⟨p1, p2⟩ := hp 5 8 (by omega)
        rw [show (((Sd.enc s).drop 5).take 8).toArray = vs s.m.l by simp [Sd.enc, Ms.enc, vs, List.take_of_length_le, s.m.h]] at p2
        have rEr := hc.keep HE.out (by simp)
        have oEr := old rEr
        have g1 : (k : Int) < (ss.length : Int) := by omega
        have g0 : (0 : Int) ≤ (k : Int) := by omega
        have g2 : (ss.length : Int) ≤ 8 := by omega
        have he := fun W => line_eq s.m.l a.l s.m.h a.h W
        have HC := Lib.hid hc
        clear hc hp hs
        by_cases q9 : s.m.kd = 9 ∨ s.m.kd = 10
        · obtain ⟨f1, f2⟩ := hok.1 q9
          have hto : (a.ow != s.to) = false := by rw [show a.ow = s.to from f1]; simp
          have hll : (s.m.l == a.l) = true := by rw [show s.m.l = a.l from f2]; simp
          have z : (s.m.kd == 9) = true ∨ ((s.m.kd == 9) = false ∧ (s.m.kd == 10) = true) := by rcases q9 with h | h <;> simp [h]
          clear hok q9 f1 f2
          rcases z with z1 | ⟨z1, z2⟩
          all_goals
            go_wp2_with fail
            go_quiet (fail)
            go_wp2_with fail
            go_roundw
            case rel => exact ⟨k + 1, by omega, by go_num, HC.out.drewN _⟩
            case measure => simp [intOf]; omega
        · have z1 : (s.m.kd == 9) = false := by simp; omega
          have z2 : (s.m.kd == 10) = false := by simp; omega
          by_cases q8 : s.m.kd = 8
          · obtain ⟨f1, f2⟩ := hok.2.1 q8
            have hto : ((a.sh &&& bitM s.to) == 0#8) = false := by
              have : ((a.sh &&& bitM s.to) != 0#8) = true := f1
              rw [bne] at this
              simpa using this
            have hll : (s.m.l == a.l) = true := by rw [show s.m.l = a.l from f2]; simp
            have z3 : (s.m.kd == 8) = true := by simp [q8]
            clear hok q9 q8 f1 f2
            go_wp2_with fail
            go_quiet ((go_at_call 26; exact quiet_same' (rbit_any _ _)))
            go_wp2_with fail
            go_roundw
            case rel => exact ⟨k + 1, by omega, by go_num, HC.out.drewN _⟩
            case measure => simp [intOf]; omega
          · have z3 : (s.m.kd == 8) = false := by simp; omega
            by_cases q12 : s.m.kd = 12 ∨ s.m.kd = 13
            · have f1 := hok.2.2 q12
              have hto : ((a.wa &&& bitM s.to) == 0#8) = false := by
                have : ((a.wa &&& bitM s.to) != 0#8) = true := f1
                rw [bne] at this
                simpa using this
              have z : (s.m.kd == 12) = true ∨ ((s.m.kd == 12) = false ∧ (s.m.kd == 13) = true) := by rcases q12 with h | h <;> simp [h]
              clear hok q9 q8 q12 f1
              rcases z with z4 | ⟨z4, z5⟩
              all_goals
                go_wp2_with fail
                go_quiet ((go_at_call 26; exact quiet_same' (rbit_any _ _)))
                go_wp2_with fail
                go_roundw
                case rel => exact ⟨k + 1, by omega, by go_num, HC.out.drewN _⟩
                case measure => simp [intOf]; omega
            · have z4 : (s.m.kd == 12) = false := by simp; omega
              have z5 : (s.m.kd == 13) = false := by simp; omega
              clear hok q9 q8 q12
              go_wp2_with fail
              go_roundw
              case rel => exact ⟨k + 1, by omega, by go_num, HC.out⟩
              case measure => simp [intOf]; omega
      · obtain rfl : k = ss.length := by omega
        have HC := Lib.hid hc
        clear hc
        go_wp2_with fail
        go_ret
        exact ⟨rfl, C3.out.trans HC.out⟩

theorem tell_len (s : Mk) (m : Ms) : (tellL s m).length ≤ 8 := by unfold tellL; rw [List.length_map]; exact coresTo_len s 8
theorem owned_len (e : En) (c kd li : Int) : (ownedE e c kd li).2.length ≤ 8 := tell_len _ _
theorem shared_len (e : En) (c li : Int) : (sharedE e c li).2.length ≤ 8 := tell_len _ _
theorem wait_len (e : En) (c : Int) (m : Ms) (o : Mk) (kd : Int) : (waitE e c m o kd).2.length ≤ 8 := tell_len _ _
theorem ask_len (e : En) (c : Int) (m : Ms) : (askE e c m).1.2.length ≤ 8 := by
  unfold askE
  split
  · split
    · exact Nat.zero_le _
    · split
      · exact Nat.zero_le _
      · show (deedE e c m).2.length ≤ 8
        unfold deedE
        split
        · unfold getSE
          split
          · exact wait_len _ _ _ _ _
          · split
            · exact owned_len _ _ _ _
            · exact shared_len _ _ _
        · split
          · unfold getME
            split
            · exact owned_len _ _ _ _
            · exact wait_len _ _ _ _ _
          · split
            · exact tell_len _ _
            · split
              · exact wait_len _ _ _ _ _
              · exact wait_len _ _ _ _ _
  · exact Nat.zero_le _
theorem ans_len (e : En) (c : Int) (m : Ms) : (ansE e c m).1.2.length ≤ 8 := by
  unfold ansE
  split
  · split
    · split
      · exact Nat.zero_le _
      · show (settledE _ _).2.length ≤ 8
        unfold settledE
        split
        · exact shared_len _ _ _
        · split
          · exact owned_len _ _ _ _
          · exact Nat.zero_le _
    · exact Nat.zero_le _
  · exact Nat.zero_le _
theorem push_len (e : En) : (pushedE e).1.2.length ≤ 8 := by
  unfold pushedE
  split
  · exact tell_len _ _
  · exact Nat.zero_le _
set_option maxHeartbeats 8000000 in
theorem dgoods_any (x : En) (c : Int) (m : Ms) (w : World) (ht : Tab w) : Calls Tryd.prog 5 #[.agg (ec x), .int .i64 c, .agg (msc m)] w fun e w' => e = .returned (.bool true) ∧ Chg [] w w' := by
  have HT := Lib.hid ht
  clear ht
  cases g1 : goodE x
  · skip
    go_enter Tryd.func5, Tryd.ntmps5
    try dsimp only [List.append]
    go_wp2_with fail
    refine gen_calls2 (w := w) (b1 := w.heap.size) (x1 := .cells (ec (x)) 26 (0, 0)) (b2 := w.heap.size + 1) (x2 := .cells (msc m) 28 (0, 0)) (by (repeat' (first | with_reducible exact Chg.refl _ _ | with_reducible assumption | with_reducible refine Chg.drew ?_ | with_reducible refine Chg.drewN ?_ _ | with_reducible refine Chg.alloc ?_ _ | with_reducible refine Chg.putRow ?_ _ _ _ (.inr ?_) | with_reducible refine Chg.setCell ?_ _ _ _ (.inr ?_)  | (show _ ≤ _; first | exact Nat.le_refl _ | omega | (simp; done))))) (by simp [*]) (by simp [*]) fun w1 C1 rE rM => ?_
    have oE := old rE
    have oM := old rM
    have HC := Lib.hid C1
    clear C1
    refine (down_any x w1).mono ?_
    rintro e w2 ⟨rfl, c2⟩
    replace rE := c2.keep rE (by simp)
    replace rM := c2.keep rM (by simp)
    have C2 := Lib.hid (HC.out.trans c2)
    clear c2 HC oE oM
    have oE := old rE
    have oM := old rM
    go_wp2_with fail
    refine (down_at x _ g1 w2).mono ?_
    rintro e w3 ⟨rfl, c3⟩
    replace rE := c3.keep rE (by simp)
    replace rM := c3.keep rM (by simp)
    have C3 := Lib.hid (C2.out.trans c3)
    clear c3 C2 oE oM
    have oE := old rE
    have oM := old rM
    go_wp2_with (go_at_call 20; refine (dwakes _ (HT.out.keep C3.out (by simp))).mono ?_; rintro e w9 ⟨rfl, c9⟩)
    go_ret
    exact ⟨rfl, C3.out.trans c9⟩
  have FA := Lib.hid (fun h => askE_fit (e := x) (c := c) (m := m) h)
  have FB := Lib.hid (fun h => ansE_fit (e := x) (c := c) (m := m) h)
  have FC := Lib.hid (fun h => pushedE_fit (e := x) h)
  cases hp : ((askE x c m).2 != 0)
  · cases hq : ((ansE x c m).2 != 0)
    · cases hr : ((pushedE x).2 != 0)
      · skip
        go_enter Tryd.func5, Tryd.ntmps5
        try dsimp only [List.append]
        go_wp2_with fail
        refine gen_calls2 (w := w) (b1 := w.heap.size) (x1 := .cells (ec (x)) 26 (0, 0)) (b2 := w.heap.size + 1) (x2 := .cells (msc m) 28 (0, 0)) (by (repeat' (first | with_reducible exact Chg.refl _ _ | with_reducible assumption | with_reducible refine Chg.drew ?_ | with_reducible refine Chg.drewN ?_ _ | with_reducible refine Chg.alloc ?_ _ | with_reducible refine Chg.putRow ?_ _ _ _ (.inr ?_) | with_reducible refine Chg.setCell ?_ _ _ _ (.inr ?_)  | (show _ ≤ _; first | exact Nat.le_refl _ | omega | (simp; done))))) (by simp [*]) (by simp [*]) fun w1 C1 rE rM => ?_
        have oE := old rE
        have oM := old rM
        have HC := Lib.hid C1
        clear C1
        refine (down_any x w1).mono ?_
        rintro e w2 ⟨rfl, c2⟩
        replace rE := c2.keep rE (by simp)
        replace rM := c2.keep rM (by simp)
        have C2 := Lib.hid (HC.out.trans c2)
        clear c2 HC oE oM
        have oE := old rE
        have oM := old rM
        go_wp2_with fail
        refine (down_at x _ g1 w2).mono ?_
        rintro e w3 ⟨rfl, c3⟩
        replace rE := c3.keep rE (by simp)
        replace rM := c3.keep rM (by simp)
        have C3 := Lib.hid (C2.out.trans c3)
        clear c3 C2 oE oM
        have oE := old rE
        have oM := old rM
        go_wp2_with fail
        refine (dask_any x c m w3 (HT.out.keep C3.out (by simp))).mono ?_
        rintro e w4 ⟨AP, nP, rfl, hs, _, cc⟩
        replace rE := cc.keep rE (by simp)
        replace rM := cc.keep rM (by simp)
        have Dw4 := Lib.hid (C3.out.trans cc)
        clear cc C3 oE oM
        have oE := old rE
        have oM := old rM
        have SP := Lib.hid hs
        clear hs
        go_wp2_with fail
        have cb := (Chg.refl [] w4).alloc (.cells (ec ((askE x c m).1.1)) 26 (0, 0))
        have rP : (w4.alloc (.cells (ec ((askE x c m).1.1)) 26 (0, 0))).heap[w4.heap.size]? = some (.cells (ec ((askE x c m).1.1)) 26 (0, 0)) := by simp
        replace rE := cb.keep rE (by simp)
        replace rM := cb.keep rM (by simp)
        replace SP := Lib.hid (SP.out.chg cb (by simp))
        have Cw5 := Lib.hid (Dw4.out.trans cb)
        clear cb Dw4 oE oM
        generalize w4.heap.size = pP at rP ⊢
        generalize w4.alloc (.cells (ec ((askE x c m).1.1)) 26 (0, 0)) = w5 at rP Cw5 rE rM SP ⊢
        have oE := old rE
        have oM := old rM
        have oP := old rP
        go_wp2_with fail
        refine (danswer_any x c m w5 (HT.out.keep Cw5.out (by simp))).mono ?_
        rintro e w6 ⟨AQ, nQ, rfl, hs, _, cc⟩
        replace rE := cc.keep rE (by simp)
        replace rM := cc.keep rM (by simp)
        replace rP := cc.keep rP (by simp)
        replace SP := Lib.hid (SP.out.chg cc (by simp))
        have Dw6 := Lib.hid (Cw5.out.trans cc)
        clear cc Cw5 oE oM oP
        have oE := old rE
        have oM := old rM
        have oP := old rP
        have SQ := Lib.hid hs
        clear hs
        go_wp2_with fail
        have cb := (Chg.refl [] w6).alloc (.cells (ec ((ansE x c m).1.1)) 26 (0, 0))
        have rQ : (w6.alloc (.cells (ec ((ansE x c m).1.1)) 26 (0, 0))).heap[w6.heap.size]? = some (.cells (ec ((ansE x c m).1.1)) 26 (0, 0)) := by simp
        replace rE := cb.keep rE (by simp)
        replace rM := cb.keep rM (by simp)
        replace rP := cb.keep rP (by simp)
        replace SP := Lib.hid (SP.out.chg cb (by simp))
        replace SQ := Lib.hid (SQ.out.chg cb (by simp))
        have Cw7 := Lib.hid (Dw6.out.trans cb)
        clear cb Dw6 oE oM oP
        generalize w6.heap.size = pQ at rQ ⊢
        generalize w6.alloc (.cells (ec ((ansE x c m).1.1)) 26 (0, 0)) = w7 at rQ Cw7 rE rM rP SP SQ ⊢
        have oE := old rE
        have oM := old rM
        have oP := old rP
        have oQ := old rQ
        go_wp2_with fail
        refine (dpushed_any x w7 ((HT.out.keep Cw7.out (by simp)).old)).mono ?_
        rintro e w8 ⟨AR, nR, rfl, hs, _, cc⟩
        replace rE := cc.keep rE (by simp)
        replace rM := cc.keep rM (by simp)
        replace rP := cc.keep rP (by simp)
        replace rQ := cc.keep rQ (by simp)
        replace SP := Lib.hid (SP.out.chg cc (by simp))
        replace SQ := Lib.hid (SQ.out.chg cc (by simp))
        have Dw8 := Lib.hid (Cw7.out.trans cc)
        clear cc Cw7 oE oM oP oQ
        have oE := old rE
        have oM := old rM
        have oP := old rP
        have oQ := old rQ
        have SR := Lib.hid hs
        clear hs
        go_wp2_with fail
        have cb := (Chg.refl [] w8).alloc (.cells (ec ((pushedE x).1.1)) 26 (0, 0))
        have rR : (w8.alloc (.cells (ec ((pushedE x).1.1)) 26 (0, 0))).heap[w8.heap.size]? = some (.cells (ec ((pushedE x).1.1)) 26 (0, 0)) := by simp
        replace rE := cb.keep rE (by simp)
        replace rM := cb.keep rM (by simp)
        replace rP := cb.keep rP (by simp)
        replace rQ := cb.keep rQ (by simp)
        replace SP := Lib.hid (SP.out.chg cb (by simp))
        replace SQ := Lib.hid (SQ.out.chg cb (by simp))
        replace SR := Lib.hid (SR.out.chg cb (by simp))
        have Cw9 := Lib.hid (Dw8.out.trans cb)
        clear cb Dw8 oE oM oP oQ
        generalize w8.heap.size = pR at rR ⊢
        generalize w8.alloc (.cells (ec ((pushedE x).1.1)) 26 (0, 0)) = w9 at rR Cw9 rE rM rP rQ SP SQ SR ⊢
        have oE := old rE
        have oM := old rM
        have oP := old rP
        have oQ := old rQ
        have oR := old rR
        have LA := Lib.hid (ask_len x c m)
        have LB := Lib.hid (ans_len x c m)
        have LC := Lib.hid (push_len x)
        generalize askE x c m = ra at hp FA LA rP SP ⊢
        generalize ansE x c m = rb at hq FB LB rQ SQ ⊢
        generalize pushedE x = rc at hr FC LC rR SR ⊢
        go_wp2_with fail
        refine (dfits_any ra.1.1 ra.1.2 _ _ _ (FA.out (by simpa using hp)) SP.out LA.out).mono ?_
        rintro e w10 ⟨rfl, cc⟩
        replace rP := cc.keep rP (by simp)
        replace rQ := cc.keep rQ (by simp)
        replace rR := cc.keep rR (by simp)
        replace SP := Lib.hid (SP.out.chg cc (by simp))
        replace SQ := Lib.hid (SQ.out.chg cc (by simp))
        replace SR := Lib.hid (SR.out.chg cc (by simp))
        have C10 := Lib.hid (Cw9.out.trans cc)
        clear cc Cw9 oP oQ oR
        have oP := old rP
        have oQ := old rQ
        have oR := old rR
        go_wp2_with fail
        refine (dfits_any rb.1.1 rb.1.2 _ _ _ (FB.out (by simpa using hq)) SQ.out LB.out).mono ?_
        rintro e w11 ⟨rfl, cc⟩
        replace rP := cc.keep rP (by simp)
        replace rQ := cc.keep rQ (by simp)
        replace rR := cc.keep rR (by simp)
        replace SP := Lib.hid (SP.out.chg cc (by simp))
        replace SQ := Lib.hid (SQ.out.chg cc (by simp))
        replace SR := Lib.hid (SR.out.chg cc (by simp))
        have C11 := Lib.hid (C10.out.trans cc)
        clear cc C10 oP oQ oR
        have oP := old rP
        have oQ := old rQ
        have oR := old rR
        go_wp2_with fail
        refine (dfits_any rc.1.1 rc.1.2 _ _ _ (FC.out (by simpa using hr)) SR.out LC.out).mono ?_
        rintro e w12 ⟨rfl, cc⟩
        replace rP := cc.keep rP (by simp)
        replace rQ := cc.keep rQ (by simp)
        replace rR := cc.keep rR (by simp)
        replace SP := Lib.hid (SP.out.chg cc (by simp))
        replace SQ := Lib.hid (SQ.out.chg cc (by simp))
        replace SR := Lib.hid (SR.out.chg cc (by simp))
        have C12 := Lib.hid (C11.out.trans cc)
        clear cc C11 oP oQ oR
        have oP := old rP
        have oQ := old rQ
        have oR := old rR
        go_wp2_with fail
        refine (dwakes _ (HT.out.keep C12.out (by simp))).mono ?_
        rintro e wz ⟨rfl, cz⟩
        go_wp2_with fail
        go_ret
        exact ⟨rfl, C12.out.trans cz⟩
      · skip
        go_enter Tryd.func5, Tryd.ntmps5
        try dsimp only [List.append]
        go_wp2_with fail
        refine gen_calls2 (w := w) (b1 := w.heap.size) (x1 := .cells (ec (x)) 26 (0, 0)) (b2 := w.heap.size + 1) (x2 := .cells (msc m) 28 (0, 0)) (by (repeat' (first | with_reducible exact Chg.refl _ _ | with_reducible assumption | with_reducible refine Chg.drew ?_ | with_reducible refine Chg.drewN ?_ _ | with_reducible refine Chg.alloc ?_ _ | with_reducible refine Chg.putRow ?_ _ _ _ (.inr ?_) | with_reducible refine Chg.setCell ?_ _ _ _ (.inr ?_)  | (show _ ≤ _; first | exact Nat.le_refl _ | omega | (simp; done))))) (by simp [*]) (by simp [*]) fun w1 C1 rE rM => ?_
        have oE := old rE
        have oM := old rM
        have HC := Lib.hid C1
        clear C1
        refine (down_any x w1).mono ?_
        rintro e w2 ⟨rfl, c2⟩
        replace rE := c2.keep rE (by simp)
        replace rM := c2.keep rM (by simp)
        have C2 := Lib.hid (HC.out.trans c2)
        clear c2 HC oE oM
        have oE := old rE
        have oM := old rM
        go_wp2_with fail
        refine (down_at x _ g1 w2).mono ?_
        rintro e w3 ⟨rfl, c3⟩
        replace rE := c3.keep rE (by simp)
        replace rM := c3.keep rM (by simp)
        have C3 := Lib.hid (C2.out.trans c3)
        clear c3 C2 oE oM
        have oE := old rE
        have oM := old rM
        go_wp2_with fail
        refine (dask_any x c m w3 (HT.out.keep C3.out (by simp))).mono ?_
        rintro e w4 ⟨AP, nP, rfl, hs, _, cc⟩
        replace rE := cc.keep rE (by simp)
        replace rM := cc.keep rM (by simp)
        have Dw4 := Lib.hid (C3.out.trans cc)
        clear cc C3 oE oM
        have oE := old rE
        have oM := old rM
        have SP := Lib.hid hs
        clear hs
        go_wp2_with fail
        have cb := (Chg.refl [] w4).alloc (.cells (ec ((askE x c m).1.1)) 26 (0, 0))
        have rP : (w4.alloc (.cells (ec ((askE x c m).1.1)) 26 (0, 0))).heap[w4.heap.size]? = some (.cells (ec ((askE x c m).1.1)) 26 (0, 0)) := by simp
        replace rE := cb.keep rE (by simp)
        replace rM := cb.keep rM (by simp)
        replace SP := Lib.hid (SP.out.chg cb (by simp))
        have Cw5 := Lib.hid (Dw4.out.trans cb)
        clear cb Dw4 oE oM
        generalize w4.heap.size = pP at rP ⊢
        generalize w4.alloc (.cells (ec ((askE x c m).1.1)) 26 (0, 0)) = w5 at rP Cw5 rE rM SP ⊢
        have oE := old rE
        have oM := old rM
        have oP := old rP
        go_wp2_with fail
        refine (danswer_any x c m w5 (HT.out.keep Cw5.out (by simp))).mono ?_
        rintro e w6 ⟨AQ, nQ, rfl, hs, _, cc⟩
        replace rE := cc.keep rE (by simp)
        replace rM := cc.keep rM (by simp)
        replace rP := cc.keep rP (by simp)
        replace SP := Lib.hid (SP.out.chg cc (by simp))
        have Dw6 := Lib.hid (Cw5.out.trans cc)
        clear cc Cw5 oE oM oP
        have oE := old rE
        have oM := old rM
        have oP := old rP
        have SQ := Lib.hid hs
        clear hs
        go_wp2_with fail
        have cb := (Chg.refl [] w6).alloc (.cells (ec ((ansE x c m).1.1)) 26 (0, 0))
        have rQ : (w6.alloc (.cells (ec ((ansE x c m).1.1)) 26 (0, 0))).heap[w6.heap.size]? = some (.cells (ec ((ansE x c m).1.1)) 26 (0, 0)) := by simp
        replace rE := cb.keep rE (by simp)
        replace rM := cb.keep rM (by simp)
        replace rP := cb.keep rP (by simp)
        replace SP := Lib.hid (SP.out.chg cb (by simp))
        replace SQ := Lib.hid (SQ.out.chg cb (by simp))
        have Cw7 := Lib.hid (Dw6.out.trans cb)
        clear cb Dw6 oE oM oP
        generalize w6.heap.size = pQ at rQ ⊢
        generalize w6.alloc (.cells (ec ((ansE x c m).1.1)) 26 (0, 0)) = w7 at rQ Cw7 rE rM rP SP SQ ⊢
        have oE := old rE
        have oM := old rM
        have oP := old rP
        have oQ := old rQ
        go_wp2_with fail
        refine (dpushed_any x w7 ((HT.out.keep Cw7.out (by simp)).old)).mono ?_
        rintro e w8 ⟨AR, nR, rfl, hs, _, cc⟩
        replace rE := cc.keep rE (by simp)
        replace rM := cc.keep rM (by simp)
        replace rP := cc.keep rP (by simp)
        replace rQ := cc.keep rQ (by simp)
        replace SP := Lib.hid (SP.out.chg cc (by simp))
        replace SQ := Lib.hid (SQ.out.chg cc (by simp))
        have Dw8 := Lib.hid (Cw7.out.trans cc)
        clear cc Cw7 oE oM oP oQ
        have oE := old rE
        have oM := old rM
        have oP := old rP
        have oQ := old rQ
        have SR := Lib.hid hs
        clear hs
        go_wp2_with fail
        have cb := (Chg.refl [] w8).alloc (.cells (ec ((pushedE x).1.1)) 26 (0, 0))
        have rR : (w8.alloc (.cells (ec ((pushedE x).1.1)) 26 (0, 0))).heap[w8.heap.size]? = some (.cells (ec ((pushedE x).1.1)) 26 (0, 0)) := by simp
        replace rE := cb.keep rE (by simp)
        replace rM := cb.keep rM (by simp)
        replace rP := cb.keep rP (by simp)
        replace rQ := cb.keep rQ (by simp)
        replace SP := Lib.hid (SP.out.chg cb (by simp))
        replace SQ := Lib.hid (SQ.out.chg cb (by simp))
        replace SR := Lib.hid (SR.out.chg cb (by simp))
        have Cw9 := Lib.hid (Dw8.out.trans cb)
        clear cb Dw8 oE oM oP oQ
        generalize w8.heap.size = pR at rR ⊢
        generalize w8.alloc (.cells (ec ((pushedE x).1.1)) 26 (0, 0)) = w9 at rR Cw9 rE rM rP rQ SP SQ SR ⊢
        have oE := old rE
        have oM := old rM
        have oP := old rP
        have oQ := old rQ
        have oR := old rR
        have LA := Lib.hid (ask_len x c m)
        have LB := Lib.hid (ans_len x c m)
        have LC := Lib.hid (push_len x)
        generalize askE x c m = ra at hp FA LA rP SP ⊢
        generalize ansE x c m = rb at hq FB LB rQ SQ ⊢
        generalize pushedE x = rc at hr FC LC rR SR ⊢
        go_wp2_with fail
        refine (dfits_any ra.1.1 ra.1.2 _ _ _ (FA.out (by simpa using hp)) SP.out LA.out).mono ?_
        rintro e w10 ⟨rfl, cc⟩
        replace rP := cc.keep rP (by simp)
        replace rQ := cc.keep rQ (by simp)
        replace rR := cc.keep rR (by simp)
        replace SP := Lib.hid (SP.out.chg cc (by simp))
        replace SQ := Lib.hid (SQ.out.chg cc (by simp))
        replace SR := Lib.hid (SR.out.chg cc (by simp))
        have C10 := Lib.hid (Cw9.out.trans cc)
        clear cc Cw9 oP oQ oR
        have oP := old rP
        have oQ := old rQ
        have oR := old rR
        go_wp2_with fail
        refine (dfits_any rb.1.1 rb.1.2 _ _ _ (FB.out (by simpa using hq)) SQ.out LB.out).mono ?_
        rintro e w11 ⟨rfl, cc⟩
        replace rP := cc.keep rP (by simp)
        replace rQ := cc.keep rQ (by simp)
        replace rR := cc.keep rR (by simp)
        replace SP := Lib.hid (SP.out.chg cc (by simp))
        replace SQ := Lib.hid (SQ.out.chg cc (by simp))
        replace SR := Lib.hid (SR.out.chg cc (by simp))
        have C11 := Lib.hid (C10.out.trans cc)
        clear cc C10 oP oQ oR
        have oP := old rP
        have oQ := old rQ
        have oR := old rR
        go_wp2_with fail
        refine (dwakes _ (HT.out.keep C11.out (by simp))).mono ?_
        rintro e wz ⟨rfl, cz⟩
        go_wp2_with fail
        go_ret
        exact ⟨rfl, C11.out.trans cz⟩
    · cases hr : ((pushedE x).2 != 0)
      · skip
        go_enter Tryd.func5, Tryd.ntmps5
        try dsimp only [List.append]
        go_wp2_with fail
        refine gen_calls2 (w := w) (b1 := w.heap.size) (x1 := .cells (ec (x)) 26 (0, 0)) (b2 := w.heap.size + 1) (x2 := .cells (msc m) 28 (0, 0)) (by (repeat' (first | with_reducible exact Chg.refl _ _ | with_reducible assumption | with_reducible refine Chg.drew ?_ | with_reducible refine Chg.drewN ?_ _ | with_reducible refine Chg.alloc ?_ _ | with_reducible refine Chg.putRow ?_ _ _ _ (.inr ?_) | with_reducible refine Chg.setCell ?_ _ _ _ (.inr ?_)  | (show _ ≤ _; first | exact Nat.le_refl _ | omega | (simp; done))))) (by simp [*]) (by simp [*]) fun w1 C1 rE rM => ?_
        have oE := old rE
        have oM := old rM
        have HC := Lib.hid C1
        clear C1
        refine (down_any x w1).mono ?_
        rintro e w2 ⟨rfl, c2⟩
        replace rE := c2.keep rE (by simp)
        replace rM := c2.keep rM (by simp)
        have C2 := Lib.hid (HC.out.trans c2)
        clear c2 HC oE oM
        have oE := old rE
        have oM := old rM
        go_wp2_with fail
        refine (down_at x _ g1 w2).mono ?_
        rintro e w3 ⟨rfl, c3⟩
        replace rE := c3.keep rE (by simp)
        replace rM := c3.keep rM (by simp)
        have C3 := Lib.hid (C2.out.trans c3)
        clear c3 C2 oE oM
        have oE := old rE
        have oM := old rM
        go_wp2_with fail
        refine (dask_any x c m w3 (HT.out.keep C3.out (by simp))).mono ?_
        rintro e w4 ⟨AP, nP, rfl, hs, _, cc⟩
        replace rE := cc.keep rE (by simp)
        replace rM := cc.keep rM (by simp)
        have Dw4 := Lib.hid (C3.out.trans cc)
        clear cc C3 oE oM
        have oE := old rE
        have oM := old rM
        have SP := Lib.hid hs
        clear hs
        go_wp2_with fail
        have cb := (Chg.refl [] w4).alloc (.cells (ec ((askE x c m).1.1)) 26 (0, 0))
        have rP : (w4.alloc (.cells (ec ((askE x c m).1.1)) 26 (0, 0))).heap[w4.heap.size]? = some (.cells (ec ((askE x c m).1.1)) 26 (0, 0)) := by simp
        replace rE := cb.keep rE (by simp)
        replace rM := cb.keep rM (by simp)
        replace SP := Lib.hid (SP.out.chg cb (by simp))
        have Cw5 := Lib.hid (Dw4.out.trans cb)
        clear cb Dw4 oE oM
        generalize w4.heap.size = pP at rP ⊢
        generalize w4.alloc (.cells (ec ((askE x c m).1.1)) 26 (0, 0)) = w5 at rP Cw5 rE rM SP ⊢
        have oE := old rE
        have oM := old rM
        have oP := old rP
        go_wp2_with fail
        refine (danswer_any x c m w5 (HT.out.keep Cw5.out (by simp))).mono ?_
        rintro e w6 ⟨AQ, nQ, rfl, hs, _, cc⟩
        replace rE := cc.keep rE (by simp)
        replace rM := cc.keep rM (by simp)
        replace rP := cc.keep rP (by simp)
        replace SP := Lib.hid (SP.out.chg cc (by simp))
        have Dw6 := Lib.hid (Cw5.out.trans cc)
        clear cc Cw5 oE oM oP
        have oE := old rE
        have oM := old rM
        have oP := old rP
        have SQ := Lib.hid hs
        clear hs
        go_wp2_with fail
        have cb := (Chg.refl [] w6).alloc (.cells (ec ((ansE x c m).1.1)) 26 (0, 0))
        have rQ : (w6.alloc (.cells (ec ((ansE x c m).1.1)) 26 (0, 0))).heap[w6.heap.size]? = some (.cells (ec ((ansE x c m).1.1)) 26 (0, 0)) := by simp
        replace rE := cb.keep rE (by simp)
        replace rM := cb.keep rM (by simp)
        replace rP := cb.keep rP (by simp)
        replace SP := Lib.hid (SP.out.chg cb (by simp))
        replace SQ := Lib.hid (SQ.out.chg cb (by simp))
        have Cw7 := Lib.hid (Dw6.out.trans cb)
        clear cb Dw6 oE oM oP
        generalize w6.heap.size = pQ at rQ ⊢
        generalize w6.alloc (.cells (ec ((ansE x c m).1.1)) 26 (0, 0)) = w7 at rQ Cw7 rE rM rP SP SQ ⊢
        have oE := old rE
        have oM := old rM
        have oP := old rP
        have oQ := old rQ
        go_wp2_with fail
        refine (dpushed_any x w7 ((HT.out.keep Cw7.out (by simp)).old)).mono ?_
        rintro e w8 ⟨AR, nR, rfl, hs, _, cc⟩
        replace rE := cc.keep rE (by simp)
        replace rM := cc.keep rM (by simp)
        replace rP := cc.keep rP (by simp)
        replace rQ := cc.keep rQ (by simp)
        replace SP := Lib.hid (SP.out.chg cc (by simp))
        replace SQ := Lib.hid (SQ.out.chg cc (by simp))
        have Dw8 := Lib.hid (Cw7.out.trans cc)
        clear cc Cw7 oE oM oP oQ
        have oE := old rE
        have oM := old rM
        have oP := old rP
        have oQ := old rQ
        have SR := Lib.hid hs
        clear hs
        go_wp2_with fail
        have cb := (Chg.refl [] w8).alloc (.cells (ec ((pushedE x).1.1)) 26 (0, 0))
        have rR : (w8.alloc (.cells (ec ((pushedE x).1.1)) 26 (0, 0))).heap[w8.heap.size]? = some (.cells (ec ((pushedE x).1.1)) 26 (0, 0)) := by simp
        replace rE := cb.keep rE (by simp)
        replace rM := cb.keep rM (by simp)
        replace rP := cb.keep rP (by simp)
        replace rQ := cb.keep rQ (by simp)
        replace SP := Lib.hid (SP.out.chg cb (by simp))
        replace SQ := Lib.hid (SQ.out.chg cb (by simp))
        replace SR := Lib.hid (SR.out.chg cb (by simp))
        have Cw9 := Lib.hid (Dw8.out.trans cb)
        clear cb Dw8 oE oM oP oQ
        generalize w8.heap.size = pR at rR ⊢
        generalize w8.alloc (.cells (ec ((pushedE x).1.1)) 26 (0, 0)) = w9 at rR Cw9 rE rM rP rQ SP SQ SR ⊢
        have oE := old rE
        have oM := old rM
        have oP := old rP
        have oQ := old rQ
        have oR := old rR
        have LA := Lib.hid (ask_len x c m)
        have LB := Lib.hid (ans_len x c m)
        have LC := Lib.hid (push_len x)
        generalize askE x c m = ra at hp FA LA rP SP ⊢
        generalize ansE x c m = rb at hq FB LB rQ SQ ⊢
        generalize pushedE x = rc at hr FC LC rR SR ⊢
        go_wp2_with fail
        refine (dfits_any ra.1.1 ra.1.2 _ _ _ (FA.out (by simpa using hp)) SP.out LA.out).mono ?_
        rintro e w10 ⟨rfl, cc⟩
        replace rP := cc.keep rP (by simp)
        replace rQ := cc.keep rQ (by simp)
        replace rR := cc.keep rR (by simp)
        replace SP := Lib.hid (SP.out.chg cc (by simp))
        replace SQ := Lib.hid (SQ.out.chg cc (by simp))
        replace SR := Lib.hid (SR.out.chg cc (by simp))
        have C10 := Lib.hid (Cw9.out.trans cc)
        clear cc Cw9 oP oQ oR
        have oP := old rP
        have oQ := old rQ
        have oR := old rR
        go_wp2_with fail
        refine (dfits_any rc.1.1 rc.1.2 _ _ _ (FC.out (by simpa using hr)) SR.out LC.out).mono ?_
        rintro e w11 ⟨rfl, cc⟩
        replace rP := cc.keep rP (by simp)
        replace rQ := cc.keep rQ (by simp)
        replace rR := cc.keep rR (by simp)
        replace SP := Lib.hid (SP.out.chg cc (by simp))
        replace SQ := Lib.hid (SQ.out.chg cc (by simp))
        replace SR := Lib.hid (SR.out.chg cc (by simp))
        have C11 := Lib.hid (C10.out.trans cc)
        clear cc C10 oP oQ oR
        have oP := old rP
        have oQ := old rQ
        have oR := old rR
        go_wp2_with fail
        refine (dwakes _ (HT.out.keep C11.out (by simp))).mono ?_
        rintro e wz ⟨rfl, cz⟩
        go_wp2_with fail
        go_ret
        exact ⟨rfl, C11.out.trans cz⟩
      · skip
        go_enter Tryd.func5, Tryd.ntmps5
        try dsimp only [List.append]
        go_wp2_with fail
        refine gen_calls2 (w := w) (b1 := w.heap.size) (x1 := .cells (ec (x)) 26 (0, 0)) (b2 := w.heap.size + 1) (x2 := .cells (msc m) 28 (0, 0)) (by (repeat' (first | with_reducible exact Chg.refl _ _ | with_reducible assumption | with_reducible refine Chg.drew ?_ | with_reducible refine Chg.drewN ?_ _ | with_reducible refine Chg.alloc ?_ _ | with_reducible refine Chg.putRow ?_ _ _ _ (.inr ?_) | with_reducible refine Chg.setCell ?_ _ _ _ (.inr ?_)  | (show _ ≤ _; first | exact Nat.le_refl _ | omega | (simp; done))))) (by simp [*]) (by simp [*]) fun w1 C1 rE rM => ?_
        have oE := old rE
        have oM := old rM
        have HC := Lib.hid C1
        clear C1
        refine (down_any x w1).mono ?_
        rintro e w2 ⟨rfl, c2⟩
        replace rE := c2.keep rE (by simp)
        replace rM := c2.keep rM (by simp)
        have C2 := Lib.hid (HC.out.trans c2)
        clear c2 HC oE oM
        have oE := old rE
        have oM := old rM
        go_wp2_with fail
        refine (down_at x _ g1 w2).mono ?_
        rintro e w3 ⟨rfl, c3⟩
        replace rE := c3.keep rE (by simp)
        replace rM := c3.keep rM (by simp)
        have C3 := Lib.hid (C2.out.trans c3)
        clear c3 C2 oE oM
        have oE := old rE
        have oM := old rM
        go_wp2_with fail
        refine (dask_any x c m w3 (HT.out.keep C3.out (by simp))).mono ?_
        rintro e w4 ⟨AP, nP, rfl, hs, _, cc⟩
        replace rE := cc.keep rE (by simp)
        replace rM := cc.keep rM (by simp)
        have Dw4 := Lib.hid (C3.out.trans cc)
        clear cc C3 oE oM
        have oE := old rE
        have oM := old rM
        have SP := Lib.hid hs
        clear hs
        go_wp2_with fail
        have cb := (Chg.refl [] w4).alloc (.cells (ec ((askE x c m).1.1)) 26 (0, 0))
        have rP : (w4.alloc (.cells (ec ((askE x c m).1.1)) 26 (0, 0))).heap[w4.heap.size]? = some (.cells (ec ((askE x c m).1.1)) 26 (0, 0)) := by simp
        replace rE := cb.keep rE (by simp)
        replace rM := cb.keep rM (by simp)
        replace SP := Lib.hid (SP.out.chg cb (by simp))
        have Cw5 := Lib.hid (Dw4.out.trans cb)
        clear cb Dw4 oE oM
        generalize w4.heap.size = pP at rP ⊢
        generalize w4.alloc (.cells (ec ((askE x c m).1.1)) 26 (0, 0)) = w5 at rP Cw5 rE rM SP ⊢
        have oE := old rE
        have oM := old rM
        have oP := old rP
        go_wp2_with fail
        refine (danswer_any x c m w5 (HT.out.keep Cw5.out (by simp))).mono ?_
        rintro e w6 ⟨AQ, nQ, rfl, hs, _, cc⟩
        replace rE := cc.keep rE (by simp)
        replace rM := cc.keep rM (by simp)
        replace rP := cc.keep rP (by simp)
        replace SP := Lib.hid (SP.out.chg cc (by simp))
        have Dw6 := Lib.hid (Cw5.out.trans cc)
        clear cc Cw5 oE oM oP
        have oE := old rE
        have oM := old rM
        have oP := old rP
        have SQ := Lib.hid hs
        clear hs
        go_wp2_with fail
        have cb := (Chg.refl [] w6).alloc (.cells (ec ((ansE x c m).1.1)) 26 (0, 0))
        have rQ : (w6.alloc (.cells (ec ((ansE x c m).1.1)) 26 (0, 0))).heap[w6.heap.size]? = some (.cells (ec ((ansE x c m).1.1)) 26 (0, 0)) := by simp
        replace rE := cb.keep rE (by simp)
        replace rM := cb.keep rM (by simp)
        replace rP := cb.keep rP (by simp)
        replace SP := Lib.hid (SP.out.chg cb (by simp))
        replace SQ := Lib.hid (SQ.out.chg cb (by simp))
        have Cw7 := Lib.hid (Dw6.out.trans cb)
        clear cb Dw6 oE oM oP
        generalize w6.heap.size = pQ at rQ ⊢
        generalize w6.alloc (.cells (ec ((ansE x c m).1.1)) 26 (0, 0)) = w7 at rQ Cw7 rE rM rP SP SQ ⊢
        have oE := old rE
        have oM := old rM
        have oP := old rP
        have oQ := old rQ
        go_wp2_with fail
        refine (dpushed_any x w7 ((HT.out.keep Cw7.out (by simp)).old)).mono ?_
        rintro e w8 ⟨AR, nR, rfl, hs, _, cc⟩
        replace rE := cc.keep rE (by simp)
        replace rM := cc.keep rM (by simp)
        replace rP := cc.keep rP (by simp)
        replace rQ := cc.keep rQ (by simp)
        replace SP := Lib.hid (SP.out.chg cc (by simp))
        replace SQ := Lib.hid (SQ.out.chg cc (by simp))
        have Dw8 := Lib.hid (Cw7.out.trans cc)
        clear cc Cw7 oE oM oP oQ
        have oE := old rE
        have oM := old rM
        have oP := old rP
        have oQ := old rQ
        have SR := Lib.hid hs
        clear hs
        go_wp2_with fail
        have cb := (Chg.refl [] w8).alloc (.cells (ec ((pushedE x).1.1)) 26 (0, 0))
        have rR : (w8.alloc (.cells (ec ((pushedE x).1.1)) 26 (0, 0))).heap[w8.heap.size]? = some (.cells (ec ((pushedE x).1.1)) 26 (0, 0)) := by simp
        replace rE := cb.keep rE (by simp)
        replace rM := cb.keep rM (by simp)
        replace rP := cb.keep rP (by simp)
        replace rQ := cb.keep rQ (by simp)
        replace SP := Lib.hid (SP.out.chg cb (by simp))
        replace SQ := Lib.hid (SQ.out.chg cb (by simp))
        replace SR := Lib.hid (SR.out.chg cb (by simp))
        have Cw9 := Lib.hid (Dw8.out.trans cb)
        clear cb Dw8 oE oM oP oQ
        generalize w8.heap.size = pR at rR ⊢
        generalize w8.alloc (.cells (ec ((pushedE x).1.1)) 26 (0, 0)) = w9 at rR Cw9 rE rM rP rQ SP SQ SR ⊢
        have oE := old rE
        have oM := old rM
        have oP := old rP
        have oQ := old rQ
        have oR := old rR
        have LA := Lib.hid (ask_len x c m)
        have LB := Lib.hid (ans_len x c m)
        have LC := Lib.hid (push_len x)
        generalize askE x c m = ra at hp FA LA rP SP ⊢
        generalize ansE x c m = rb at hq FB LB rQ SQ ⊢
        generalize pushedE x = rc at hr FC LC rR SR ⊢
        go_wp2_with fail
        refine (dfits_any ra.1.1 ra.1.2 _ _ _ (FA.out (by simpa using hp)) SP.out LA.out).mono ?_
        rintro e w10 ⟨rfl, cc⟩
        replace rP := cc.keep rP (by simp)
        replace rQ := cc.keep rQ (by simp)
        replace rR := cc.keep rR (by simp)
        replace SP := Lib.hid (SP.out.chg cc (by simp))
        replace SQ := Lib.hid (SQ.out.chg cc (by simp))
        replace SR := Lib.hid (SR.out.chg cc (by simp))
        have C10 := Lib.hid (Cw9.out.trans cc)
        clear cc Cw9 oP oQ oR
        have oP := old rP
        have oQ := old rQ
        have oR := old rR
        go_wp2_with fail
        refine (dwakes _ (HT.out.keep C10.out (by simp))).mono ?_
        rintro e wz ⟨rfl, cz⟩
        go_wp2_with fail
        go_ret
        exact ⟨rfl, C10.out.trans cz⟩
  · cases hq : ((ansE x c m).2 != 0)
    · cases hr : ((pushedE x).2 != 0)
      · skip
        go_enter Tryd.func5, Tryd.ntmps5
        try dsimp only [List.append]
        go_wp2_with fail
        refine gen_calls2 (w := w) (b1 := w.heap.size) (x1 := .cells (ec (x)) 26 (0, 0)) (b2 := w.heap.size + 1) (x2 := .cells (msc m) 28 (0, 0)) (by (repeat' (first | with_reducible exact Chg.refl _ _ | with_reducible assumption | with_reducible refine Chg.drew ?_ | with_reducible refine Chg.drewN ?_ _ | with_reducible refine Chg.alloc ?_ _ | with_reducible refine Chg.putRow ?_ _ _ _ (.inr ?_) | with_reducible refine Chg.setCell ?_ _ _ _ (.inr ?_)  | (show _ ≤ _; first | exact Nat.le_refl _ | omega | (simp; done))))) (by simp [*]) (by simp [*]) fun w1 C1 rE rM => ?_
        have oE := old rE
        have oM := old rM
        have HC := Lib.hid C1
        clear C1
        refine (down_any x w1).mono ?_
        rintro e w2 ⟨rfl, c2⟩
        replace rE := c2.keep rE (by simp)
        replace rM := c2.keep rM (by simp)
        have C2 := Lib.hid (HC.out.trans c2)
        clear c2 HC oE oM
        have oE := old rE
        have oM := old rM
        go_wp2_with fail
        refine (down_at x _ g1 w2).mono ?_
        rintro e w3 ⟨rfl, c3⟩
        replace rE := c3.keep rE (by simp)
        replace rM := c3.keep rM (by simp)
        have C3 := Lib.hid (C2.out.trans c3)
        clear c3 C2 oE oM
        have oE := old rE
        have oM := old rM
        go_wp2_with fail
        refine (dask_any x c m w3 (HT.out.keep C3.out (by simp))).mono ?_
        rintro e w4 ⟨AP, nP, rfl, hs, _, cc⟩
        replace rE := cc.keep rE (by simp)
        replace rM := cc.keep rM (by simp)
        have Dw4 := Lib.hid (C3.out.trans cc)
        clear cc C3 oE oM
        have oE := old rE
        have oM := old rM
        have SP := Lib.hid hs
        clear hs
        go_wp2_with fail
        have cb := (Chg.refl [] w4).alloc (.cells (ec ((askE x c m).1.1)) 26 (0, 0))
        have rP : (w4.alloc (.cells (ec ((askE x c m).1.1)) 26 (0, 0))).heap[w4.heap.size]? = some (.cells (ec ((askE x c m).1.1)) 26 (0, 0)) := by simp
        replace rE := cb.keep rE (by simp)
        replace rM := cb.keep rM (by simp)
        replace SP := Lib.hid (SP.out.chg cb (by simp))
        have Cw5 := Lib.hid (Dw4.out.trans cb)
        clear cb Dw4 oE oM
        generalize w4.heap.size = pP at rP ⊢
        generalize w4.alloc (.cells (ec ((askE x c m).1.1)) 26 (0, 0)) = w5 at rP Cw5 rE rM SP ⊢
        have oE := old rE
        have oM := old rM
        have oP := old rP
        go_wp2_with fail
        refine (danswer_any x c m w5 (HT.out.keep Cw5.out (by simp))).mono ?_
        rintro e w6 ⟨AQ, nQ, rfl, hs, _, cc⟩
        replace rE := cc.keep rE (by simp)
        replace rM := cc.keep rM (by simp)
        replace rP := cc.keep rP (by simp)
        replace SP := Lib.hid (SP.out.chg cc (by simp))
        have Dw6 := Lib.hid (Cw5.out.trans cc)
        clear cc Cw5 oE oM oP
        have oE := old rE
        have oM := old rM
        have oP := old rP
        have SQ := Lib.hid hs
        clear hs
        go_wp2_with fail
        have cb := (Chg.refl [] w6).alloc (.cells (ec ((ansE x c m).1.1)) 26 (0, 0))
        have rQ : (w6.alloc (.cells (ec ((ansE x c m).1.1)) 26 (0, 0))).heap[w6.heap.size]? = some (.cells (ec ((ansE x c m).1.1)) 26 (0, 0)) := by simp
        replace rE := cb.keep rE (by simp)
        replace rM := cb.keep rM (by simp)
        replace rP := cb.keep rP (by simp)
        replace SP := Lib.hid (SP.out.chg cb (by simp))
        replace SQ := Lib.hid (SQ.out.chg cb (by simp))
        have Cw7 := Lib.hid (Dw6.out.trans cb)
        clear cb Dw6 oE oM oP
        generalize w6.heap.size = pQ at rQ ⊢
        generalize w6.alloc (.cells (ec ((ansE x c m).1.1)) 26 (0, 0)) = w7 at rQ Cw7 rE rM rP SP SQ ⊢
        have oE := old rE
        have oM := old rM
        have oP := old rP
        have oQ := old rQ
        go_wp2_with fail
        refine (dpushed_any x w7 ((HT.out.keep Cw7.out (by simp)).old)).mono ?_
        rintro e w8 ⟨AR, nR, rfl, hs, _, cc⟩
        replace rE := cc.keep rE (by simp)
        replace rM := cc.keep rM (by simp)
        replace rP := cc.keep rP (by simp)
        replace rQ := cc.keep rQ (by simp)
        replace SP := Lib.hid (SP.out.chg cc (by simp))
        replace SQ := Lib.hid (SQ.out.chg cc (by simp))
        have Dw8 := Lib.hid (Cw7.out.trans cc)
        clear cc Cw7 oE oM oP oQ
        have oE := old rE
        have oM := old rM
        have oP := old rP
        have oQ := old rQ
        have SR := Lib.hid hs
        clear hs
        go_wp2_with fail
        have cb := (Chg.refl [] w8).alloc (.cells (ec ((pushedE x).1.1)) 26 (0, 0))
        have rR : (w8.alloc (.cells (ec ((pushedE x).1.1)) 26 (0, 0))).heap[w8.heap.size]? = some (.cells (ec ((pushedE x).1.1)) 26 (0, 0)) := by simp
        replace rE := cb.keep rE (by simp)
        replace rM := cb.keep rM (by simp)
        replace rP := cb.keep rP (by simp)
        replace rQ := cb.keep rQ (by simp)
        replace SP := Lib.hid (SP.out.chg cb (by simp))
        replace SQ := Lib.hid (SQ.out.chg cb (by simp))
        replace SR := Lib.hid (SR.out.chg cb (by simp))
        have Cw9 := Lib.hid (Dw8.out.trans cb)
        clear cb Dw8 oE oM oP oQ
        generalize w8.heap.size = pR at rR ⊢
        generalize w8.alloc (.cells (ec ((pushedE x).1.1)) 26 (0, 0)) = w9 at rR Cw9 rE rM rP rQ SP SQ SR ⊢
        have oE := old rE
        have oM := old rM
        have oP := old rP
        have oQ := old rQ
        have oR := old rR
        have LA := Lib.hid (ask_len x c m)
        have LB := Lib.hid (ans_len x c m)
        have LC := Lib.hid (push_len x)
        generalize askE x c m = ra at hp FA LA rP SP ⊢
        generalize ansE x c m = rb at hq FB LB rQ SQ ⊢
        generalize pushedE x = rc at hr FC LC rR SR ⊢
        go_wp2_with fail
        refine (dfits_any rb.1.1 rb.1.2 _ _ _ (FB.out (by simpa using hq)) SQ.out LB.out).mono ?_
        rintro e w10 ⟨rfl, cc⟩
        replace rP := cc.keep rP (by simp)
        replace rQ := cc.keep rQ (by simp)
        replace rR := cc.keep rR (by simp)
        replace SP := Lib.hid (SP.out.chg cc (by simp))
        replace SQ := Lib.hid (SQ.out.chg cc (by simp))
        replace SR := Lib.hid (SR.out.chg cc (by simp))
        have C10 := Lib.hid (Cw9.out.trans cc)
        clear cc Cw9 oP oQ oR
        have oP := old rP
        have oQ := old rQ
        have oR := old rR
        go_wp2_with fail
        refine (dfits_any rc.1.1 rc.1.2 _ _ _ (FC.out (by simpa using hr)) SR.out LC.out).mono ?_
        rintro e w11 ⟨rfl, cc⟩
        replace rP := cc.keep rP (by simp)
        replace rQ := cc.keep rQ (by simp)
        replace rR := cc.keep rR (by simp)
        replace SP := Lib.hid (SP.out.chg cc (by simp))
        replace SQ := Lib.hid (SQ.out.chg cc (by simp))
        replace SR := Lib.hid (SR.out.chg cc (by simp))
        have C11 := Lib.hid (C10.out.trans cc)
        clear cc C10 oP oQ oR
        have oP := old rP
        have oQ := old rQ
        have oR := old rR
        go_wp2_with fail
        refine (dwakes _ (HT.out.keep C11.out (by simp))).mono ?_
        rintro e wz ⟨rfl, cz⟩
        go_wp2_with fail
        go_ret
        exact ⟨rfl, C11.out.trans cz⟩
      · skip
        go_enter Tryd.func5, Tryd.ntmps5
        try dsimp only [List.append]
        go_wp2_with fail
        refine gen_calls2 (w := w) (b1 := w.heap.size) (x1 := .cells (ec (x)) 26 (0, 0)) (b2 := w.heap.size + 1) (x2 := .cells (msc m) 28 (0, 0)) (by (repeat' (first | with_reducible exact Chg.refl _ _ | with_reducible assumption | with_reducible refine Chg.drew ?_ | with_reducible refine Chg.drewN ?_ _ | with_reducible refine Chg.alloc ?_ _ | with_reducible refine Chg.putRow ?_ _ _ _ (.inr ?_) | with_reducible refine Chg.setCell ?_ _ _ _ (.inr ?_)  | (show _ ≤ _; first | exact Nat.le_refl _ | omega | (simp; done))))) (by simp [*]) (by simp [*]) fun w1 C1 rE rM => ?_
        have oE := old rE
        have oM := old rM
        have HC := Lib.hid C1
        clear C1
        refine (down_any x w1).mono ?_
        rintro e w2 ⟨rfl, c2⟩
        replace rE := c2.keep rE (by simp)
        replace rM := c2.keep rM (by simp)
        have C2 := Lib.hid (HC.out.trans c2)
        clear c2 HC oE oM
        have oE := old rE
        have oM := old rM
        go_wp2_with fail
        refine (down_at x _ g1 w2).mono ?_
        rintro e w3 ⟨rfl, c3⟩
        replace rE := c3.keep rE (by simp)
        replace rM := c3.keep rM (by simp)
        have C3 := Lib.hid (C2.out.trans c3)
        clear c3 C2 oE oM
        have oE := old rE
        have oM := old rM
        go_wp2_with fail
        refine (dask_any x c m w3 (HT.out.keep C3.out (by simp))).mono ?_
        rintro e w4 ⟨AP, nP, rfl, hs, _, cc⟩
        replace rE := cc.keep rE (by simp)
        replace rM := cc.keep rM (by simp)
        have Dw4 := Lib.hid (C3.out.trans cc)
        clear cc C3 oE oM
        have oE := old rE
        have oM := old rM
        have SP := Lib.hid hs
        clear hs
        go_wp2_with fail
        have cb := (Chg.refl [] w4).alloc (.cells (ec ((askE x c m).1.1)) 26 (0, 0))
        have rP : (w4.alloc (.cells (ec ((askE x c m).1.1)) 26 (0, 0))).heap[w4.heap.size]? = some (.cells (ec ((askE x c m).1.1)) 26 (0, 0)) := by simp
        replace rE := cb.keep rE (by simp)
        replace rM := cb.keep rM (by simp)
        replace SP := Lib.hid (SP.out.chg cb (by simp))
        have Cw5 := Lib.hid (Dw4.out.trans cb)
        clear cb Dw4 oE oM
        generalize w4.heap.size = pP at rP ⊢
        generalize w4.alloc (.cells (ec ((askE x c m).1.1)) 26 (0, 0)) = w5 at rP Cw5 rE rM SP ⊢
        have oE := old rE
        have oM := old rM
        have oP := old rP
        go_wp2_with fail
        refine (danswer_any x c m w5 (HT.out.keep Cw5.out (by simp))).mono ?_
        rintro e w6 ⟨AQ, nQ, rfl, hs, _, cc⟩
        replace rE := cc.keep rE (by simp)
        replace rM := cc.keep rM (by simp)
        replace rP := cc.keep rP (by simp)
        replace SP := Lib.hid (SP.out.chg cc (by simp))
        have Dw6 := Lib.hid (Cw5.out.trans cc)
        clear cc Cw5 oE oM oP
        have oE := old rE
        have oM := old rM
        have oP := old rP
        have SQ := Lib.hid hs
        clear hs
        go_wp2_with fail
        have cb := (Chg.refl [] w6).alloc (.cells (ec ((ansE x c m).1.1)) 26 (0, 0))
        have rQ : (w6.alloc (.cells (ec ((ansE x c m).1.1)) 26 (0, 0))).heap[w6.heap.size]? = some (.cells (ec ((ansE x c m).1.1)) 26 (0, 0)) := by simp
        replace rE := cb.keep rE (by simp)
        replace rM := cb.keep rM (by simp)
        replace rP := cb.keep rP (by simp)
        replace SP := Lib.hid (SP.out.chg cb (by simp))
        replace SQ := Lib.hid (SQ.out.chg cb (by simp))
        have Cw7 := Lib.hid (Dw6.out.trans cb)
        clear cb Dw6 oE oM oP
        generalize w6.heap.size = pQ at rQ ⊢
        generalize w6.alloc (.cells (ec ((ansE x c m).1.1)) 26 (0, 0)) = w7 at rQ Cw7 rE rM rP SP SQ ⊢
        have oE := old rE
        have oM := old rM
        have oP := old rP
        have oQ := old rQ
        go_wp2_with fail
        refine (dpushed_any x w7 ((HT.out.keep Cw7.out (by simp)).old)).mono ?_
        rintro e w8 ⟨AR, nR, rfl, hs, _, cc⟩
        replace rE := cc.keep rE (by simp)
        replace rM := cc.keep rM (by simp)
        replace rP := cc.keep rP (by simp)
        replace rQ := cc.keep rQ (by simp)
        replace SP := Lib.hid (SP.out.chg cc (by simp))
        replace SQ := Lib.hid (SQ.out.chg cc (by simp))
        have Dw8 := Lib.hid (Cw7.out.trans cc)
        clear cc Cw7 oE oM oP oQ
        have oE := old rE
        have oM := old rM
        have oP := old rP
        have oQ := old rQ
        have SR := Lib.hid hs
        clear hs
        go_wp2_with fail
        have cb := (Chg.refl [] w8).alloc (.cells (ec ((pushedE x).1.1)) 26 (0, 0))
        have rR : (w8.alloc (.cells (ec ((pushedE x).1.1)) 26 (0, 0))).heap[w8.heap.size]? = some (.cells (ec ((pushedE x).1.1)) 26 (0, 0)) := by simp
        replace rE := cb.keep rE (by simp)
        replace rM := cb.keep rM (by simp)
        replace rP := cb.keep rP (by simp)
        replace rQ := cb.keep rQ (by simp)
        replace SP := Lib.hid (SP.out.chg cb (by simp))
        replace SQ := Lib.hid (SQ.out.chg cb (by simp))
        replace SR := Lib.hid (SR.out.chg cb (by simp))
        have Cw9 := Lib.hid (Dw8.out.trans cb)
        clear cb Dw8 oE oM oP oQ
        generalize w8.heap.size = pR at rR ⊢
        generalize w8.alloc (.cells (ec ((pushedE x).1.1)) 26 (0, 0)) = w9 at rR Cw9 rE rM rP rQ SP SQ SR ⊢
        have oE := old rE
        have oM := old rM
        have oP := old rP
        have oQ := old rQ
        have oR := old rR
        have LA := Lib.hid (ask_len x c m)
        have LB := Lib.hid (ans_len x c m)
        have LC := Lib.hid (push_len x)
        generalize askE x c m = ra at hp FA LA rP SP ⊢
        generalize ansE x c m = rb at hq FB LB rQ SQ ⊢
        generalize pushedE x = rc at hr FC LC rR SR ⊢
        go_wp2_with fail
        refine (dfits_any rb.1.1 rb.1.2 _ _ _ (FB.out (by simpa using hq)) SQ.out LB.out).mono ?_
        rintro e w10 ⟨rfl, cc⟩
        replace rP := cc.keep rP (by simp)
        replace rQ := cc.keep rQ (by simp)
        replace rR := cc.keep rR (by simp)
        replace SP := Lib.hid (SP.out.chg cc (by simp))
        replace SQ := Lib.hid (SQ.out.chg cc (by simp))
        replace SR := Lib.hid (SR.out.chg cc (by simp))
        have C10 := Lib.hid (Cw9.out.trans cc)
        clear cc Cw9 oP oQ oR
        have oP := old rP
        have oQ := old rQ
        have oR := old rR
        go_wp2_with fail
        refine (dwakes _ (HT.out.keep C10.out (by simp))).mono ?_
        rintro e wz ⟨rfl, cz⟩
        go_wp2_with fail
        go_ret
        exact ⟨rfl, C10.out.trans cz⟩
    · cases hr : ((pushedE x).2 != 0)
      · skip
        go_enter Tryd.func5, Tryd.ntmps5
        try dsimp only [List.append]
        go_wp2_with fail
        refine gen_calls2 (w := w) (b1 := w.heap.size) (x1 := .cells (ec (x)) 26 (0, 0)) (b2 := w.heap.size + 1) (x2 := .cells (msc m) 28 (0, 0)) (by (repeat' (first | with_reducible exact Chg.refl _ _ | with_reducible assumption | with_reducible refine Chg.drew ?_ | with_reducible refine Chg.drewN ?_ _ | with_reducible refine Chg.alloc ?_ _ | with_reducible refine Chg.putRow ?_ _ _ _ (.inr ?_) | with_reducible refine Chg.setCell ?_ _ _ _ (.inr ?_)  | (show _ ≤ _; first | exact Nat.le_refl _ | omega | (simp; done))))) (by simp [*]) (by simp [*]) fun w1 C1 rE rM => ?_
        have oE := old rE
        have oM := old rM
        have HC := Lib.hid C1
        clear C1
        refine (down_any x w1).mono ?_
        rintro e w2 ⟨rfl, c2⟩
        replace rE := c2.keep rE (by simp)
        replace rM := c2.keep rM (by simp)
        have C2 := Lib.hid (HC.out.trans c2)
        clear c2 HC oE oM
        have oE := old rE
        have oM := old rM
        go_wp2_with fail
        refine (down_at x _ g1 w2).mono ?_
        rintro e w3 ⟨rfl, c3⟩
        replace rE := c3.keep rE (by simp)
        replace rM := c3.keep rM (by simp)
        have C3 := Lib.hid (C2.out.trans c3)
        clear c3 C2 oE oM
        have oE := old rE
        have oM := old rM
        go_wp2_with fail
        refine (dask_any x c m w3 (HT.out.keep C3.out (by simp))).mono ?_
        rintro e w4 ⟨AP, nP, rfl, hs, _, cc⟩
        replace rE := cc.keep rE (by simp)
        replace rM := cc.keep rM (by simp)
        have Dw4 := Lib.hid (C3.out.trans cc)
        clear cc C3 oE oM
        have oE := old rE
        have oM := old rM
        have SP := Lib.hid hs
        clear hs
        go_wp2_with fail
        have cb := (Chg.refl [] w4).alloc (.cells (ec ((askE x c m).1.1)) 26 (0, 0))
        have rP : (w4.alloc (.cells (ec ((askE x c m).1.1)) 26 (0, 0))).heap[w4.heap.size]? = some (.cells (ec ((askE x c m).1.1)) 26 (0, 0)) := by simp
        replace rE := cb.keep rE (by simp)
        replace rM := cb.keep rM (by simp)
        replace SP := Lib.hid (SP.out.chg cb (by simp))
        have Cw5 := Lib.hid (Dw4.out.trans cb)
        clear cb Dw4 oE oM
        generalize w4.heap.size = pP at rP ⊢
        generalize w4.alloc (.cells (ec ((askE x c m).1.1)) 26 (0, 0)) = w5 at rP Cw5 rE rM SP ⊢
        have oE := old rE
        have oM := old rM
        have oP := old rP
        go_wp2_with fail
        refine (danswer_any x c m w5 (HT.out.keep Cw5.out (by simp))).mono ?_
        rintro e w6 ⟨AQ, nQ, rfl, hs, _, cc⟩
        replace rE := cc.keep rE (by simp)
        replace rM := cc.keep rM (by simp)
        replace rP := cc.keep rP (by simp)
        replace SP := Lib.hid (SP.out.chg cc (by simp))
        have Dw6 := Lib.hid (Cw5.out.trans cc)
        clear cc Cw5 oE oM oP
        have oE := old rE
        have oM := old rM
        have oP := old rP
        have SQ := Lib.hid hs
        clear hs
        go_wp2_with fail
        have cb := (Chg.refl [] w6).alloc (.cells (ec ((ansE x c m).1.1)) 26 (0, 0))
        have rQ : (w6.alloc (.cells (ec ((ansE x c m).1.1)) 26 (0, 0))).heap[w6.heap.size]? = some (.cells (ec ((ansE x c m).1.1)) 26 (0, 0)) := by simp
        replace rE := cb.keep rE (by simp)
        replace rM := cb.keep rM (by simp)
        replace rP := cb.keep rP (by simp)
        replace SP := Lib.hid (SP.out.chg cb (by simp))
        replace SQ := Lib.hid (SQ.out.chg cb (by simp))
        have Cw7 := Lib.hid (Dw6.out.trans cb)
        clear cb Dw6 oE oM oP
        generalize w6.heap.size = pQ at rQ ⊢
        generalize w6.alloc (.cells (ec ((ansE x c m).1.1)) 26 (0, 0)) = w7 at rQ Cw7 rE rM rP SP SQ ⊢
        have oE := old rE
        have oM := old rM
        have oP := old rP
        have oQ := old rQ
        go_wp2_with fail
        refine (dpushed_any x w7 ((HT.out.keep Cw7.out (by simp)).old)).mono ?_
        rintro e w8 ⟨AR, nR, rfl, hs, _, cc⟩
        replace rE := cc.keep rE (by simp)
        replace rM := cc.keep rM (by simp)
        replace rP := cc.keep rP (by simp)
        replace rQ := cc.keep rQ (by simp)
        replace SP := Lib.hid (SP.out.chg cc (by simp))
        replace SQ := Lib.hid (SQ.out.chg cc (by simp))
        have Dw8 := Lib.hid (Cw7.out.trans cc)
        clear cc Cw7 oE oM oP oQ
        have oE := old rE
        have oM := old rM
        have oP := old rP
        have oQ := old rQ
        have SR := Lib.hid hs
        clear hs
        go_wp2_with fail
        have cb := (Chg.refl [] w8).alloc (.cells (ec ((pushedE x).1.1)) 26 (0, 0))
        have rR : (w8.alloc (.cells (ec ((pushedE x).1.1)) 26 (0, 0))).heap[w8.heap.size]? = some (.cells (ec ((pushedE x).1.1)) 26 (0, 0)) := by simp
        replace rE := cb.keep rE (by simp)
        replace rM := cb.keep rM (by simp)
        replace rP := cb.keep rP (by simp)
        replace rQ := cb.keep rQ (by simp)
        replace SP := Lib.hid (SP.out.chg cb (by simp))
        replace SQ := Lib.hid (SQ.out.chg cb (by simp))
        replace SR := Lib.hid (SR.out.chg cb (by simp))
        have Cw9 := Lib.hid (Dw8.out.trans cb)
        clear cb Dw8 oE oM oP oQ
        generalize w8.heap.size = pR at rR ⊢
        generalize w8.alloc (.cells (ec ((pushedE x).1.1)) 26 (0, 0)) = w9 at rR Cw9 rE rM rP rQ SP SQ SR ⊢
        have oE := old rE
        have oM := old rM
        have oP := old rP
        have oQ := old rQ
        have oR := old rR
        have LA := Lib.hid (ask_len x c m)
        have LB := Lib.hid (ans_len x c m)
        have LC := Lib.hid (push_len x)
        generalize askE x c m = ra at hp FA LA rP SP ⊢
        generalize ansE x c m = rb at hq FB LB rQ SQ ⊢
        generalize pushedE x = rc at hr FC LC rR SR ⊢
        go_wp2_with fail
        refine (dfits_any rc.1.1 rc.1.2 _ _ _ (FC.out (by simpa using hr)) SR.out LC.out).mono ?_
        rintro e w10 ⟨rfl, cc⟩
        replace rP := cc.keep rP (by simp)
        replace rQ := cc.keep rQ (by simp)
        replace rR := cc.keep rR (by simp)
        replace SP := Lib.hid (SP.out.chg cc (by simp))
        replace SQ := Lib.hid (SQ.out.chg cc (by simp))
        replace SR := Lib.hid (SR.out.chg cc (by simp))
        have C10 := Lib.hid (Cw9.out.trans cc)
        clear cc Cw9 oP oQ oR
        have oP := old rP
        have oQ := old rQ
        have oR := old rR
        go_wp2_with fail
        refine (dwakes _ (HT.out.keep C10.out (by simp))).mono ?_
        rintro e wz ⟨rfl, cz⟩
        go_wp2_with fail
        go_ret
        exact ⟨rfl, C10.out.trans cz⟩
      · skip
        go_enter Tryd.func5, Tryd.ntmps5
        try dsimp only [List.append]
        go_wp2_with fail
        refine gen_calls2 (w := w) (b1 := w.heap.size) (x1 := .cells (ec (x)) 26 (0, 0)) (b2 := w.heap.size + 1) (x2 := .cells (msc m) 28 (0, 0)) (by (repeat' (first | with_reducible exact Chg.refl _ _ | with_reducible assumption | with_reducible refine Chg.drew ?_ | with_reducible refine Chg.drewN ?_ _ | with_reducible refine Chg.alloc ?_ _ | with_reducible refine Chg.putRow ?_ _ _ _ (.inr ?_) | with_reducible refine Chg.setCell ?_ _ _ _ (.inr ?_)  | (show _ ≤ _; first | exact Nat.le_refl _ | omega | (simp; done))))) (by simp [*]) (by simp [*]) fun w1 C1 rE rM => ?_
        have oE := old rE
        have oM := old rM
        have HC := Lib.hid C1
        clear C1
        refine (down_any x w1).mono ?_
        rintro e w2 ⟨rfl, c2⟩
        replace rE := c2.keep rE (by simp)
        replace rM := c2.keep rM (by simp)
        have C2 := Lib.hid (HC.out.trans c2)
        clear c2 HC oE oM
        have oE := old rE
        have oM := old rM
        go_wp2_with fail
        refine (down_at x _ g1 w2).mono ?_
        rintro e w3 ⟨rfl, c3⟩
        replace rE := c3.keep rE (by simp)
        replace rM := c3.keep rM (by simp)
        have C3 := Lib.hid (C2.out.trans c3)
        clear c3 C2 oE oM
        have oE := old rE
        have oM := old rM
        go_wp2_with fail
        refine (dask_any x c m w3 (HT.out.keep C3.out (by simp))).mono ?_
        rintro e w4 ⟨AP, nP, rfl, hs, _, cc⟩
        replace rE := cc.keep rE (by simp)
        replace rM := cc.keep rM (by simp)
        have Dw4 := Lib.hid (C3.out.trans cc)
        clear cc C3 oE oM
        have oE := old rE
        have oM := old rM
        have SP := Lib.hid hs
        clear hs
        go_wp2_with fail
        have cb := (Chg.refl [] w4).alloc (.cells (ec ((askE x c m).1.1)) 26 (0, 0))
        have rP : (w4.alloc (.cells (ec ((askE x c m).1.1)) 26 (0, 0))).heap[w4.heap.size]? = some (.cells (ec ((askE x c m).1.1)) 26 (0, 0)) := by simp
        replace rE := cb.keep rE (by simp)
        replace rM := cb.keep rM (by simp)
        replace SP := Lib.hid (SP.out.chg cb (by simp))
        have Cw5 := Lib.hid (Dw4.out.trans cb)
        clear cb Dw4 oE oM
        generalize w4.heap.size = pP at rP ⊢
        generalize w4.alloc (.cells (ec ((askE x c m).1.1)) 26 (0, 0)) = w5 at rP Cw5 rE rM SP ⊢
        have oE := old rE
        have oM := old rM
        have oP := old rP
        go_wp2_with fail
        refine (danswer_any x c m w5 (HT.out.keep Cw5.out (by simp))).mono ?_
        rintro e w6 ⟨AQ, nQ, rfl, hs, _, cc⟩
        replace rE := cc.keep rE (by simp)
        replace rM := cc.keep rM (by simp)
        replace rP := cc.keep rP (by simp)
        replace SP := Lib.hid (SP.out.chg cc (by simp))
        have Dw6 := Lib.hid (Cw5.out.trans cc)
        clear cc Cw5 oE oM oP
        have oE := old rE
        have oM := old rM
        have oP := old rP
        have SQ := Lib.hid hs
        clear hs
        go_wp2_with fail
        have cb := (Chg.refl [] w6).alloc (.cells (ec ((ansE x c m).1.1)) 26 (0, 0))
        have rQ : (w6.alloc (.cells (ec ((ansE x c m).1.1)) 26 (0, 0))).heap[w6.heap.size]? = some (.cells (ec ((ansE x c m).1.1)) 26 (0, 0)) := by simp
        replace rE := cb.keep rE (by simp)
        replace rM := cb.keep rM (by simp)
        replace rP := cb.keep rP (by simp)
        replace SP := Lib.hid (SP.out.chg cb (by simp))
        replace SQ := Lib.hid (SQ.out.chg cb (by simp))
        have Cw7 := Lib.hid (Dw6.out.trans cb)
        clear cb Dw6 oE oM oP
        generalize w6.heap.size = pQ at rQ ⊢
        generalize w6.alloc (.cells (ec ((ansE x c m).1.1)) 26 (0, 0)) = w7 at rQ Cw7 rE rM rP SP SQ ⊢
        have oE := old rE
        have oM := old rM
        have oP := old rP
        have oQ := old rQ
        go_wp2_with fail
        refine (dpushed_any x w7 ((HT.out.keep Cw7.out (by simp)).old)).mono ?_
        rintro e w8 ⟨AR, nR, rfl, hs, _, cc⟩
        replace rE := cc.keep rE (by simp)
        replace rM := cc.keep rM (by simp)
        replace rP := cc.keep rP (by simp)
        replace rQ := cc.keep rQ (by simp)
        replace SP := Lib.hid (SP.out.chg cc (by simp))
        replace SQ := Lib.hid (SQ.out.chg cc (by simp))
        have Dw8 := Lib.hid (Cw7.out.trans cc)
        clear cc Cw7 oE oM oP oQ
        have oE := old rE
        have oM := old rM
        have oP := old rP
        have oQ := old rQ
        have SR := Lib.hid hs
        clear hs
        go_wp2_with fail
        have cb := (Chg.refl [] w8).alloc (.cells (ec ((pushedE x).1.1)) 26 (0, 0))
        have rR : (w8.alloc (.cells (ec ((pushedE x).1.1)) 26 (0, 0))).heap[w8.heap.size]? = some (.cells (ec ((pushedE x).1.1)) 26 (0, 0)) := by simp
        replace rE := cb.keep rE (by simp)
        replace rM := cb.keep rM (by simp)
        replace rP := cb.keep rP (by simp)
        replace rQ := cb.keep rQ (by simp)
        replace SP := Lib.hid (SP.out.chg cb (by simp))
        replace SQ := Lib.hid (SQ.out.chg cb (by simp))
        replace SR := Lib.hid (SR.out.chg cb (by simp))
        have Cw9 := Lib.hid (Dw8.out.trans cb)
        clear cb Dw8 oE oM oP oQ
        generalize w8.heap.size = pR at rR ⊢
        generalize w8.alloc (.cells (ec ((pushedE x).1.1)) 26 (0, 0)) = w9 at rR Cw9 rE rM rP rQ SP SQ SR ⊢
        have oE := old rE
        have oM := old rM
        have oP := old rP
        have oQ := old rQ
        have oR := old rR
        have LA := Lib.hid (ask_len x c m)
        have LB := Lib.hid (ans_len x c m)
        have LC := Lib.hid (push_len x)
        generalize askE x c m = ra at hp FA LA rP SP ⊢
        generalize ansE x c m = rb at hq FB LB rQ SQ ⊢
        generalize pushedE x = rc at hr FC LC rR SR ⊢
        go_wp2_with fail
        refine (dwakes _ (HT.out.keep Cw9.out (by simp))).mono ?_
        rintro e wz ⟨rfl, cz⟩
        go_wp2_with fail
        go_ret
        exact ⟨rfl, Cw9.out.trans cz⟩
end Go.Proofs.YtkaabiiedfkaaaaDoor
