/- Calls of package script on one act, and the document's: walked. No condition. -/
import Derived.Test.YtapkjbefdooclaaDoorSci
import Derived.Test.YtapkjbefdooclaaDoorOpen
import Derived.Test.YtapkjbefdooclaaDoorArgs
import Derived.Test.YtapkjbefdooclaaDoorChecked
import Derived.Laws.LoneSync
import Derived.Lib.SliceRun
import Derived.Deep.RegionHeld3
import Derived.Deep.RegionWith
import Derived.Laws.StructEq
import Derived.ChangeKeysEq
import Derived.BigQuiet
import Derived.BigRegion
import Derived.Deep.QuietTactic
namespace Go.Proofs.YtapkjbefdooclaaDoor
open Go.RowKit
set_option linter.unusedVariables false
set_option maxHeartbeats 1000000

set_option maxRecDepth 100000
attribute [local go_sem ↓] append_appS copy_copS clear_clrS make_mkS slice_slS index_ixS conv_cvS cell_row frozen_row loadAct storeAct heap_drew heap_drewN heap_alloc heap_past heap_setCell heap_putRow sac_kd sac_co sac_li act_eqIn
attribute [local go_sem] rowCell_some rowFrozen_some rowHas_some rowIn_some rowPart_full rowPart_lit rowPut_full rowPut_lit rowSet_some size_putRow wideAct run_loadS run_storeS run_appS run_copS run_clrS run_mkS run_slS run_ixS run_cvS loadW_at storeW_at fit_all fit_le one_int one_bool one_pointer one_slice allOne_list putRow_new ne_size1 ne_size2 ne_size3 ne_size4 sac_size sac_one fold_sac fold_sac2 str_size sac_lit sac_ne sac_set0 sac_set1 sac_set2
attribute [local simp ↓] heap_drew heap_drewN heap_alloc heap_past heap_setCell heap_putRow
attribute [local simp] rowCell_some rowFrozen_some rowHas_some rowIn_some rowPart_full rowPart_lit rowPut_full rowPut_lit rowSet_some size_putRow fit_all putRow_new ne_size1 ne_size2 ne_size3 ne_size4 sac_size
attribute [local go_sem ↓] cnf_c cnf_l index_ix5
theorem calls_aft_chg16 {P : Program} {f : FuncId} {args : Array Value} {N : Nat} {W : World} {x : Aft N W} {v : Value} (hN : N ≤ W.heap.size)
    (h : Calls P f args x.w fun e w' => e = .returned v ∧ Chg [] x.w w') : Calls P f args x.w fun e w'' => e = .returned v ∧ ∃ y : Aft N W, w'' = y.w :=
  calls_aft hN (h.mono fun _ _ ⟨he, hc⟩ => ⟨he, hc.below (Nat.le_refl _) (by simp)⟩)
theorem kcodes_any {A : Option Addr} {n c : Nat} {xs : List Sact} (b : List UInt8) (W : World) (ht : KTab W) (hs : Sl W 3 A n (cat Sact.enc xs)) (hl : xs.length = n) :
    Calls Tryd.prog 3 #[.slice A n c, .string (str b)] W fun e w' => e = .returned (.bool true) ∧ Chg [] W w' := by
  have HT := Lib.hid ht
  have HS := Lib.hid hs
  have HL := Lib.hid hl
  clear ht hs hl
  by_cases h1 : 500 < n
  · have g1 : (500 : Int) < (n : Int) := by omega
    go_enter Tryd.func3, Tryd.ntmps3
    try dsimp only [List.append]
    go_wp2_with fail
    refine (kwakes W HT.out).mono ?_
    rintro e w1 ⟨rfl, c1⟩
    go_wp2_with fail
    go_ret
    exact ⟨rfl, c1⟩
  have g1 : ¬ (500 : Int) < (n : Int) := by omega
  by_cases h2 : 3000 < strN b
  · have g2 : (3000 : Int) < (strN b : Int) := by omega
    go_enter Tryd.func3, Tryd.ntmps3
    try dsimp only [List.append]
    go_wp2_with fail
    refine (kwakes W HT.out).mono ?_
    rintro e w1 ⟨rfl, c1⟩
    go_wp2_with fail
    go_ret
    exact ⟨rfl, c1⟩
  have g2 : ¬ (3000 : Int) < (strN b : Int) := by omega
  have HN := Lib.hid (show n ≤ 500 by omega)
  have HB := Lib.hid (show b.length ≤ 3000 by unfold strN at h2; omega)
  clear h1 h2
  have ca := (Chg.refl [] W).alloc (.cells #[] 31)
  obtain ⟨AI, cI, wI, happ, hsI, cI2⟩ := clone_elts (ty := 22) eltAct (W.alloc (.cells #[] 31)) ⟨W.heap.size, 0, none⟩ A n c xs (HS.out.chg ca (by simp)) HL.out (by have := HN.out; omega) (by have := HN.out; unfold maxLen; omega)
  have CI := Lib.hid (ca.trans cI2)
  have HI := Lib.hid hsI
  have gn : (n : Int) ≤ 500 := by omega
  clear ca cI2 hsI
  go_enter Tryd.func3, Tryd.ntmps3
  try dsimp only [List.append]
  go_wp2_with fail
  clear happ
  refine (sencode_any wI (HT.out.keep CI.out (by simp)) HI.out HL.out (by have := HN.out; omega)).mono ?_
  rintro e w1 ⟨rfl, c1⟩
  have C1 := Lib.hid (CI.out.trans c1)
  have HI1 := Lib.hid (HI.out.chg c1 (by simp))
  clear c1 HI CI
  go_wp2_with fail
  refine (rencode_any16 0 w1 (HT.out.keep C1.out (by simp)).old (HS.out.chg C1.out (by simp)) HL.out (by have := HN.out; omega)).mono ?_
  rintro e w2 ⟨rfl, c2⟩
  have C2 := Lib.hid (C1.out.trans c2)
  have HI2 := Lib.hid (HI1.out.chg c2 (by simp))
  clear c2 HI1 C1
  go_wp2_with fail
  go_loopw [10] (fun i wr => ∃ k : Nat, k ≤ n ∧ i = .int .i64 k ∧ Chg [] w2 wr) (fun i _ => n - (intOf i).toNat)
  case atStart => exact ⟨0, by omega, rfl, Chg.refl _ _⟩
  case round =>
    obtain ⟨k, hk, rfl, hc⟩ := hrel
    have HC := Lib.hid hc
    clear hc
    by_cases hlt : k < n
    · obtain ⟨x, hx⟩ : ∃ x, xs[k]? = some x := ⟨xs[k]'(by rw [HL.out]; exact hlt), List.getElem?_eq_getElem _⟩
      have g3 : (k : Int) < (n : Int) := by omega
      have g0 : (0 : Int) ≤ (k : Int) := by omega
      obtain ⟨b0, o0, hA⟩ := HS.out.addr (by omega)
      subst hA
      obtain ⟨cA, tA, fA, hA, _, hpart⟩ := HS.out.elem (by omega) hlt (cat_part Sact.len hx)
      obtain ⟨hin, hpt⟩ := hpart 0 3 (by omega)
      have hAr := HC.out.keep (C2.out.keep hA (by simp)) (by simp)
      have oA := old hAr
      rw [Nat.add_zero] at hin hpt
      rw [show ((Sact.enc x).drop 0 |>.take 3).toArray = sac x from rfl] at hpt
      have HLT := Lib.hid hlt
      clear hx hlt hA hpart hk
      go_wp2_with fail
      have hxx : ∀ y : Aft wr.heap.size wr, y.w.heap[b0]? = some (.cells cA tA fA) := fun y => (y.block (old hAr).lt).trans hAr
      have HX := Lib.hid (show ∀ y : Aft wr.heap.size wr, KTab y.w from fun y => (HT.out.keep (C2.out.trans HC.out) (by simp)).keep (Below.chg y.below (Nat.le_refl _)) (by simp))
      refine wp_region_aft wr.heap.size (by kernel_rfl) (by kernel_rfl) ?_
      repeat (go_big_quiet_step (first
        | (go_at_call 10; exact calls_aft_chg16 (Nat.le_refl _) (sgood_any x _ (HX.out _)))
        | (go_at_call 11; exact calls_aft_chg16 (Nat.le_refl _) (rgood_any16 x _))))
      refine wpQuiet_nil ?_
      rintro _ ⟨y, rfl⟩
      have C3 := Lib.hid (HC.out.trans (Below.chg y.below (Nat.le_refl _)))
      clear hxx hAr oA
      go_wp2_with fail
      refine ⟨⟨k + 1, HLT.out, by go_num, C3.out⟩, ?_⟩
      have := HLT.out
      simp [intOf]; omega
    · have : k = n := by omega
      subst this
      have HD := Lib.hid (show (decL b).length ≤ 100000 by have := decL_len b; have := HB.out; omega)
      clear hlt hk
      go_wp2_with (first
        | (go_at_call 13; refine (sdecode_any b _ (HT.out.keep (C2.out.trans HC.out) (by simp)) (Nat.le_trans HB.out (by omega))).mono ?_; rintro e w3 ⟨A3, c3, b3, rfl, hv3, _, cc3⟩; have C3 := Lib.hid (HC.out.trans cc3); have HV3 := Lib.hid (hv3.sl Sact.len); clear hv3 cc3)
        | (go_at_call 14; refine (rdecode_any16 b 0 _ (HT.out.keep (C2.out.trans C3.out) (by simp)).old (Nat.le_trans HB.out (by omega))).mono ?_; rintro e w4 ⟨A4, c4, b4, rfl, hv4, _, cc4⟩; have C4 := Lib.hid (C3.out.trans cc4); have HV4 := Lib.hid (hv4.sl Sact.len); have HV3' := Lib.hid (HV3.out.chg cc4 (by simp)); clear hv4 cc4)
        | (go_at_call 12; refine (kacts_same _ HV3'.out HV4.out rfl rfl HD.out).mono ?_; rintro e w5 ⟨rfl, cc5⟩; have C5 := Lib.hid (C4.out.trans cc5); clear cc5 HV3 HV3' HV4)
        | (go_at_call 12; refine (kacts_same _ (HI2.out.chg C5.out (by simp)) (HS.out.chg (C2.out.trans C5.out) (by simp)) HL.out HL.out (Nat.le_trans HN.out (by omega))).mono ?_; rintro e w6 ⟨rfl, cc6⟩; have C6 := Lib.hid (C5.out.trans cc6); clear cc6)
        | (go_at_call 7; refine (kwakes _ (HT.out.keep (C2.out.trans C6.out) (by simp))).mono ?_; rintro e w7 ⟨rfl, cc7⟩; have C7 := Lib.hid (C6.out.trans cc7); clear cc7))
      go_ret
      exact ⟨rfl, C2.out.trans C7.out⟩
end Go.Proofs.YtapkjbefdooclaaDoor
