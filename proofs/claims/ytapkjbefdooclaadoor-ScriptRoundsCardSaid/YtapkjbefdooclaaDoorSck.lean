/- Calls of package script on one act, and the document's: walked. No condition. -/
import Derived.Test.YtapkjbefdooclaaDoorSci
import Derived.Test.YtapkjbefdooclaaDoorOpen
import Derived.Test.YtapkjbefdooclaaDoorArgs
import Derived.Test.YtapkjbefdooclaaDoorChecked
import Derived.Laws.LoneSync
import Derived.Lib.SliceRun
import Derived.Deep.RegionHeld3
import Derived.Deep.RegionWith
import Derived.Laws.StructEq
import Derived.ChangeKeysEq
import Derived.BigQuiet
import Derived.BigRegion
import Derived.Deep.QuietTactic
namespace Go.Proofs.YtapkjbefdooclaaDoor
open Go.RowKit
set_option linter.unusedVariables false
set_option maxHeartbeats 1000000

set_option maxRecDepth 100000
attribute [local go_sem ↓] append_appS copy_copS clear_clrS make_mkS slice_slS index_ixS conv_cvS cell_row frozen_row loadAct storeAct heap_drew heap_drewN heap_alloc heap_past heap_setCell heap_putRow sac_kd sac_co sac_li act_eqIn
attribute [local go_sem] rowCell_some rowFrozen_some rowHas_some rowIn_some rowPart_full rowPart_lit rowPut_full rowPut_lit rowSet_some size_putRow wideAct run_loadS run_storeS run_appS run_copS run_clrS run_mkS run_slS run_ixS run_cvS loadW_at storeW_at fit_all fit_le one_int one_bool one_pointer one_slice allOne_list putRow_new ne_size1 ne_size2 ne_size3 ne_size4 sac_size sac_one fold_sac fold_sac2 str_size sac_lit sac_ne sac_set0 sac_set1 sac_set2
attribute [local simp ↓] heap_drew heap_drewN heap_alloc heap_past heap_setCell heap_putRow
attribute [local simp] rowCell_some rowFrozen_some rowHas_some rowIn_some rowPart_full rowPart_lit rowPut_full rowPut_lit rowSet_some size_putRow fit_all putRow_new ne_size1 ne_size2 ne_size3 ne_size4 sac_size
attribute [local go_sem ↓] cnf_c cnf_l index_ix5
theorem encS_good {l : List Sact} (h : allG l = true) : encS l = encB l ∧ encE l = 0 := by unfold encS encE; rw [if_pos h, if_pos h]; exact ⟨rfl, rfl⟩
theorem encS_bad {l : List Sact} (h : allG l = false) : encS l = [] ∧ encE l = 11 := by
  unfold encS encE
  rw [h]
  exact ⟨rfl, rfl⟩
theorem kback_any {A : Option Addr} {n c : Nat} {xs : List Sact} (b : List UInt8) (W : World) (ht : KTab W) (hs : Sl W 3 A n (cat Sact.enc xs)) (hl : xs.length = n) :
    Calls Tryd.prog 5 #[.slice A n c, .string (str b)] W fun e w' => e = .returned (.bool true) ∧ Chg [] W w' := by
  have HT := Lib.hid ht
  have HS := Lib.hid hs
  have HL := Lib.hid hl
  clear ht hs hl
  by_cases h1 : 500 < n
  · have g1 : (500 : Int) < (n : Int) := by omega
    go_enter Tryd.func5, Tryd.ntmps5
    try dsimp only [List.append]
    go_wp2_with fail
    refine (kwakes W HT.out).mono ?_
    rintro e w1 ⟨rfl, c1⟩
    go_wp2_with fail
    go_ret
    exact ⟨rfl, c1⟩
  have g1 : ¬ (500 : Int) < (n : Int) := by omega
  by_cases h2 : 3000 < strN b
  · have g2 : (3000 : Int) < (strN b : Int) := by omega
    go_enter Tryd.func5, Tryd.ntmps5
    try dsimp only [List.append]
    go_wp2_with fail
    refine (kwakes W HT.out).mono ?_
    rintro e w1 ⟨rfl, c1⟩
    go_wp2_with fail
    go_ret
    exact ⟨rfl, c1⟩
  have g2 : ¬ (3000 : Int) < (strN b : Int) := by omega
  have HN := Lib.hid (show n ≤ 500 by omega)
  have HB := Lib.hid (show b.length ≤ 3000 by unfold strN at h2; omega)
  have HBL := Lib.hid (decL_len b)
  have HE2 := Lib.hid (encS_good (decL_good b))
  have HD2 := Lib.hid (decL_enc (decL_good b))
  have HD := Lib.hid (show (decL b).length ≤ 1000 by have := HBL.out; have := HB.out; omega)
  have gl : ((strN (encB (decL b)) : Nat) : Int) ≤ (strN b : Int) := by
    have := HBL.out
    have h3 := encB_length (decL b)
    unfold strN
    omega
  have gn : (n : Int) ≤ 500 := by omega
  clear h1 h2
  go_enter Tryd.func5, Tryd.ntmps5
  try dsimp only [List.append]
  go_wp2_with fail
  refine (sencode_any W HT.out HS.out HL.out (by have := HN.out; omega)).mono ?_
  rintro e w1 ⟨rfl, c1⟩
  have C1 := Lib.hid c1
  clear c1
  cases hg : allG xs
  · have HE := Lib.hid (encS_bad hg)
    rw [HE.out.1, HE.out.2]
    clear hg HE
    go_wp2_with fail
    refine (sdecode_any b _ (HT.out.keep C1.out (by simp)) (Nat.le_trans HB.out (by omega))).mono ?_
    rintro e w3 ⟨A3, c3, b3, rfl, hv3, _, cc3⟩
    have C3 := Lib.hid (C1.out.trans cc3)
    have HV3 := Lib.hid (hv3.sl Sact.len)
    clear hv3 cc3
    go_wp2_with fail
    refine (sencode_any w3 (HT.out.keep C3.out (by simp)) HV3.out rfl (by have := HD.out; omega)).mono ?_
    rintro e w4 ⟨rfl, c4⟩
    have C4 := Lib.hid (C3.out.trans c4)
    have HV4 := Lib.hid (HV3.out.chg c4 (by simp))
    clear c4 HV3
    rw [HE2.out.1, HE2.out.2]
    go_wp2_with (first
      | (go_at_call 13; refine (sdecode_any (encB (decL b)) _ (HT.out.keep C4.out (by simp)) (by rw [encB_length]; have := HD.out; omega)).mono ?_; rintro e w5 ⟨A5, c5, b5, rfl, hv5, _, cc5⟩; rw [HD2.out] at hv5 ⊢; have C5 := Lib.hid (C4.out.trans cc5); have HV5 := Lib.hid (hv5.sl Sact.len); have HV4' := Lib.hid (HV4.out.chg cc5 (by simp)); clear hv5 cc5)
      | (go_at_call 12; refine (kacts_same _ HV5.out HV4'.out rfl rfl (Nat.le_trans HD.out (by omega))).mono ?_; rintro e w6 ⟨rfl, cc6⟩; have C6 := Lib.hid (C5.out.trans cc6); clear cc6)
      | (go_at_call 7; refine (kwakes _ (HT.out.keep C6.out (by simp))).mono ?_; rintro e w7 ⟨rfl, cc7⟩; have C7 := Lib.hid (C6.out.trans cc7); clear cc7))
    go_ret
    exact ⟨rfl, C7.out⟩
  · have HE := Lib.hid (encS_good hg)
    have HX := Lib.hid (decL_enc hg)
    have hsn : ((strN (encB xs) : Nat) : Int) = 3 * (n : Int) := by
      have h3 := encB_length xs
      have := HL.out
      unfold strN
      omega
    rw [HE.out.1, HE.out.2]
    clear hg HE
    go_wp2_with fail
    refine (sdecode_any (encB xs) _ (HT.out.keep C1.out (by simp)) (by rw [encB_length]; have := HL.out; have := HN.out; omega)).mono ?_
    rintro e w2 ⟨A2, c2, b2, rfl, hv2, _, cc2⟩
    rw [HX.out] at hv2 ⊢
    have C2 := Lib.hid (C1.out.trans cc2)
    have HV2 := Lib.hid (hv2.sl Sact.len)
    clear hv2 cc2
    go_wp2_with fail
    refine (kacts_same _ HV2.out (HS.out.chg C2.out (by simp)) rfl HL.out (by have := HL.out; have := HN.out; omega)).mono ?_
    rintro e w2' ⟨rfl, cc2⟩
    have C2' := Lib.hid (C2.out.trans cc2)
    clear cc2 C2 HV2
    go_wp2_with fail
    refine (sdecode_any b _ (HT.out.keep C2'.out (by simp)) (Nat.le_trans HB.out (by omega))).mono ?_
    rintro e w3 ⟨A3, c3, b3, rfl, hv3, _, cc3⟩
    have C3 := Lib.hid (C2'.out.trans cc3)
    have HV3 := Lib.hid (hv3.sl Sact.len)
    clear hv3 cc3
    go_wp2_with fail
    refine (sencode_any w3 (HT.out.keep C3.out (by simp)) HV3.out rfl (by have := HD.out; omega)).mono ?_
    rintro e w4 ⟨rfl, c4⟩
    have C4 := Lib.hid (C3.out.trans c4)
    have HV4 := Lib.hid (HV3.out.chg c4 (by simp))
    clear c4 HV3 hsn
    rw [HE2.out.1, HE2.out.2]
    go_wp2_with (first
      | (go_at_call 13; refine (sdecode_any (encB (decL b)) _ (HT.out.keep C4.out (by simp)) (by rw [encB_length]; have := HD.out; omega)).mono ?_; rintro e w5 ⟨A5, c5, b5, rfl, hv5, _, cc5⟩; rw [HD2.out] at hv5 ⊢; have C5 := Lib.hid (C4.out.trans cc5); have HV5 := Lib.hid (hv5.sl Sact.len); have HV4' := Lib.hid (HV4.out.chg cc5 (by simp)); clear hv5 cc5)
      | (go_at_call 12; refine (kacts_same _ HV5.out HV4'.out rfl rfl (Nat.le_trans HD.out (by omega))).mono ?_; rintro e w6 ⟨rfl, cc6⟩; have C6 := Lib.hid (C5.out.trans cc6); clear cc6)
      | (go_at_call 7; refine (kwakes _ (HT.out.keep C6.out (by simp))).mono ?_; rintro e w7 ⟨rfl, cc7⟩; have C7 := Lib.hid (C6.out.trans cc7); clear cc7))
    go_ret
    exact ⟨rfl, C7.out⟩
end Go.Proofs.YtapkjbefdooclaaDoor
