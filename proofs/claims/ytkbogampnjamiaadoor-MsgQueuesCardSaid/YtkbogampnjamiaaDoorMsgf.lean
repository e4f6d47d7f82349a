/- MsgFull, walked. No condition. -/
import Derived.Test.YtkbogampnjamiaaDoorMsgx
namespace Go.Proofs.YtkbogampnjamiaaDoor
open Go.RowKit
set_option linter.unusedVariables false
set_option maxHeartbeats 1000000
attribute [local go_sem ↓] append_appS copy_copS clear_clrS make_mkS slice_slS cell_row frozen_row loadLine storeLine loadMsg storeMsg loadHas storeHas heap_drew heap_drewN heap_alloc heap_past heap_setCell heap_putRow vs_get msc_kd msc_li msc_di msc_ke
attribute [local go_sem] rowCell_some rowFrozen_some rowHas_some rowIn_some rowPart_full rowPart_lit rowPut_full rowPut_lit rowSet_some size_putRow vs_size vs_one wideLine wideMsg wideHas run_loadS run_storeS run_appS run_copS run_clrS run_mkS run_slS loadW_at storeW_at fit_all fit_le one_int one_bool one_pointer one_slice allOne_list putRow_new ne_size1 ne_size2 ne_size3 ne_size4 zero8_length line_eq lit8 msc_size msc_one msc_part msc_in fold_msc
attribute [local simp ↓] heap_drew heap_drewN heap_alloc heap_past heap_setCell heap_putRow
attribute [local simp] rowCell_some rowFrozen_some rowHas_some rowIn_some rowPart_full rowPart_lit rowPut_full rowPut_lit rowSet_some size_putRow vs_size fit_all putRow_new ne_size1 ne_size2 ne_size3 ne_size4 zero8_length msc_size

attribute [local go_sem] putRow_new2
attribute [local go_sem ↓] msg_same
theorem rep_push (m : Ms) (hm : mg m = true) (k : Nat) (hk : k < 1000) : pushVal (List.replicate k m) m = 0 ∧ pushXs (List.replicate k m) m = List.replicate (k + 1) m := by
  have h1 : (List.replicate k m).length = k := by simp
  constructor
  · unfold pushVal; rw [if_pos hm, h1, if_neg (by omega)]
  · unfold pushXs; rw [h1, if_pos ⟨hm, hk⟩, List.replicate_succ']
theorem rep_full (m : Ms) (hm : mg m = true) : pushVal (List.replicate 1000 m) m = 13 ∧ pushXs (List.replicate 1000 m) m = List.replicate 1000 m := by
  have h1 : (List.replicate 1000 m).length = 1000 := List.length_replicate ..
  constructor
  · unfold pushVal; rw [if_pos hm, h1, if_pos (by omega)]
  · unfold pushXs; rw [h1, if_neg (by omega)]
theorem full_form (li : Int) (h0 : 0 ≤ li) (h1 : li ≤ 63) : mg (ms4 2 li false false) = true := by
  have h2 : lineB li = true := by simp [lineB]; omega
  simp [mg, ms4, kindB, h2]
set_option maxRecDepth 100000 in
set_option maxHeartbeats 4000000 in
theorem mfull_any (n : Nat) (hn : n ≤ 255) (W : World) (ht : Tab W) : Calls Tryd.prog 5 #[.int .u8 n] W fun e w' => e = .returned (.bool true) ∧ Chg [] W w' := by
  have HT := Lib.hid ht
  clear ht
  have g0 : (0 : Int) ≤ (n : Int) := by omega
  have g1 : (n : Int) ≤ 255 := by omega
  have HM := Lib.hid (full_form ((n : Int) % 64) (by omega) (by omega))
  go_enter Tryd.func5, Tryd.ntmps5
  try dsimp only [List.append]
  go_wp2_with fail
  rw [ms4_lit 2 ((n : Int) % 64) false false]
  generalize ms4 2 ((n : Int) % 64) false false = m at HM ⊢
  have c0 := (Chg.refl [] (W.alloc (.cells #[.slice none 0 0] 34))).alloc (.cells (msc m) 26)
  have Q0 := Lib.hid ((Qu.new (Chg.refl [] W) HT.out).stay c0)
  have r0 : ((W.alloc (.cells #[.slice none 0 0] 34)).alloc (.cells (msc m) 26)).heap[W.heap.size + 1]? = some (.cells (msc m) 26 (0, 0)) := by simp
  clear c0
  generalize (W.alloc (.cells #[.slice none 0 0] 34)).alloc (.cells (msc m) 26) = w0 at Q0 r0 ⊢
  have HP := Lib.hid (show W.heap.size + 1 ≠ W.heap.size by omega)
  generalize W.heap.size + 1 = p at r0 HP ⊢
  generalize hq : W.heap.size = q at Q0 HP ⊢
  clear hq
  go_loopw [5] (fun i wr => ∃ (k be : Nat), k ≤ 1000 ∧ i = .int .i64 k ∧ Qu W wr q be (List.replicate k m) ∧ be ≠ p ∧ wr.heap[p]? = some (.cells (msc m) 26 (0, 0))) (fun i _ => 1000 - (intOf i).toNat)
  case atStart => exact ⟨0, q, by omega, rfl, Q0.out, fun e => HP.out e.symm, r0⟩
  case round =>
    obtain ⟨k, be, hk, rfl, hq, hbp, hr⟩ := hrel
    have Q := Lib.hid hq
    have HBP := Lib.hid hbp
    have oldp := old hr
    clear hq hbp
    by_cases hlt : k < 1000
    · have g2 : (k : Int) < 1000 := by omega
      have g3 : (0 : Int) ≤ (k : Int) := by omega
      obtain ⟨e1, e2⟩ := rep_push m HM.out k hlt
      have E2 := Lib.hid e2
      clear e2
      go_wp2_with fail
      refine (mpush_any Q.out m).mono ?_
      rintro e w1 ⟨rfl, b1, q1, c1, hb1⟩
      rw [e1]
      have Q1 := Lib.hid (E2.out ▸ q1)
      have r1 := c1.keep hr (by simp; exact ⟨HP.out, fun e => HBP.out e.symm⟩)
      have B1 := Lib.hid (show b1 ≠ p by
        have := oldp.lt
        have := HBP.out
        omega)
      clear q1 c1 hb1 e1
      go_wp2_with fail
      go_roundw
      case rel => exact ⟨k + 1, b1, by omega, by go_num, Q1.out, B1.out, r1⟩
      case measure => simp [intOf]; omega
    · have : k = 1000 := by omega
      subst this
      obtain ⟨e1, e2⟩ := rep_full m HM.out
      have E2 := Lib.hid e2
      clear e2 hlt hk
      go_wp2_with fail
      refine (mpush_any Q.out m).mono ?_
      rintro e w1 ⟨rfl, b1, q1, c1, hb1⟩
      rw [e1]
      have Q1 := Lib.hid (E2.out ▸ q1)
      have r1 := c1.keep hr (by simp; exact ⟨HP.out, fun e => HBP.out e.symm⟩)
      have B1 := Lib.hid (show b1 ≠ p by
        have := oldp.lt
        have := HBP.out
        omega)
      clear q1 c1 hb1 e1 hr oldp
      go_wp2_with (go_at_call 21; refine (len_ok Q1.out).mono ?_; rintro e w' ⟨rfl, rfl⟩; rw [show ((List.replicate 1000 m).length : Int) = 1000 by rw [List.length_replicate]; rfl])
      refine (mpop_ok Q1.out).mono ?_
      rintro e w2 ⟨rfl, b2, q2, c2, hb2⟩
      rw [show List.replicate 1000 m = m :: List.replicate 999 m from List.replicate_succ ..] at q2 ⊢
      rw [headM_cons, show someB (m :: List.replicate 999 m) = true from rfl]
      rw [List.tail_cons] at q2
      have r2 := c2.keep r1 (by simp; exact ⟨HP.out, fun e => B1.out e.symm⟩)
      have Q2 := Lib.hid q2
      have B2 := Lib.hid (show b2 ≠ p by
        have := (old r1).lt
        have := B1.out
        omega)
      clear q2 c2 hb2 r1 Q1
      have o2 := old r2
      obtain ⟨e1, e2⟩ := rep_push m HM.out 999 (by omega)
      have E2 := Lib.hid e2
      clear e2
      go_wp2_with fail
      have c3 := (Chg.refl [] w2).alloc (.cells (msc m) 26)
      have Q3 := Lib.hid (Q2.out.stay c3)
      clear Q2 c3 r2 o2
      generalize w2.alloc (.cells (msc m) 26) = w3 at Q3 ⊢
      refine (mpush_any Q3.out m).mono ?_
      rintro e w4 ⟨rfl, b4, q4, c4, hb4⟩
      rw [e1]
      have Q4 := Lib.hid (E2.out ▸ q4)
      clear q4 c4 hb4 e1
      go_wp2_with (first
        | (go_at_call 21; refine (len_ok Q4.out).mono ?_; rintro e w' ⟨rfl, rfl⟩; rw [show ((List.replicate (999 + 1) m).length : Int) = 1000 by rw [List.length_replicate]; rfl])
        | (go_at_call 16; refine (mwakes _ Q4.out.tab).mono ?_; rintro e w7 ⟨rfl, c7⟩))
      go_ret
      exact ⟨rfl, Q4.out.1.trans c7⟩
end Go.Proofs.YtkbogampnjamiaaDoor
