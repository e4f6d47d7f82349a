/- Calls of package script on one act, and the document's: walked. No condition. -/
import Derived.Test.YtapkjbefdooclaaDoorScg
import Derived.Test.YtapkjbefdooclaaDoorOpen
import Derived.Test.YtapkjbefdooclaaDoorArgs
import Derived.Test.YtapkjbefdooclaaDoorChecked
import Derived.Laws.LoneSync
import Derived.Lib.SliceRun
import Derived.Deep.RegionHeld3
import Derived.Deep.RegionWith
import Derived.Laws.StructEq
import Derived.ChangeKeysEq
import Derived.BigQuiet
import Derived.BigRegion
import Derived.Deep.QuietTactic
namespace Go.Proofs.YtapkjbefdooclaaDoor
open Go.RowKit
set_option linter.unusedVariables false
set_option maxHeartbeats 1000000

set_option maxRecDepth 100000
attribute [local go_sem ↓] append_appS copy_copS clear_clrS make_mkS slice_slS index_ixS conv_cvS cell_row frozen_row loadAct storeAct heap_drew heap_drewN heap_alloc heap_past heap_setCell heap_putRow sac_kd sac_co sac_li act_eqIn
attribute [local go_sem] rowCell_some rowFrozen_some rowHas_some rowIn_some rowPart_full rowPart_lit rowPut_full rowPut_lit rowSet_some size_putRow wideAct run_loadS run_storeS run_appS run_copS run_clrS run_mkS run_slS run_ixS run_cvS loadW_at storeW_at fit_all fit_le one_int one_bool one_pointer one_slice allOne_list putRow_new ne_size1 ne_size2 ne_size3 ne_size4 sac_size sac_one fold_sac fold_sac2 str_size sac_lit sac_ne sac_set0 sac_set1 sac_set2
attribute [local simp ↓] heap_drew heap_drewN heap_alloc heap_past heap_setCell heap_putRow
attribute [local simp] rowCell_some rowFrozen_some rowHas_some rowIn_some rowPart_full rowPart_lit rowPut_full rowPut_lit rowSet_some size_putRow fit_all putRow_new ne_size1 ne_size2 ne_size3 ne_size4 sac_size
attribute [local go_sem ↓] cnf_c cnf_l index_ix5
def wkA : List Sact := [⟨1, 2, 0⟩, ⟨7, 1, 5⟩]
def wkB : List UInt8 := [1, 2, 0, 1, 0, 5, 7, 1, 5, 1]
theorem wk_enc : str (encS wkA) = ⟨#[1, 2, 0, 7, 1, 5]⟩ ∧ encE wkA = 0 := ⟨by rfl, by rfl⟩
theorem wk_dec : decL wkB = wkA := by rfl
theorem wk_rnd : (rndL 2 3).length = 16 := by rfl
theorem kwakes (W : World) (ht : KTab W) : Calls Tryd.prog 7 #[] W fun e w' => e = .returned (.bool true) ∧ Chg [] W w' := by
  have HT := Lib.hid ht
  clear ht
  go_enter Tryd.func7, Tryd.ntmps7
  go_wp2_with fail
  have hs0 : Sl (W.alloc (.cells (cat Sact.enc [(⟨1, 2, 0⟩ : Sact), ⟨7, 1, 5⟩]).toArray 31)) 3 (some ⟨W.heap.size, 0, none⟩) 2 (cat Sact.enc wkA) := sl_new _ _ _ _ _ _ rfl rfl
  have c0 := (Chg.refl [] W).alloc (.cells (cat Sact.enc [(⟨1, 2, 0⟩ : Sact), ⟨7, 1, 5⟩]).toArray 31)
  refine (sencode_any _ (HT.out.keep c0 (by simp)) hs0 rfl (by omega)).mono ?_
  rintro e w1 ⟨rfl, c1⟩
  rw [wk_enc.1, wk_enc.2]
  have C1 := Lib.hid (c0.trans c1)
  clear hs0 c0 c1
  go_wp2_with fail
  refine (sdecode_any wkB w1 (HT.out.keep C1.out (by simp)) (by decide)).mono ?_
  rintro e w2 ⟨A, c, be, rfl, hv, hbe, c2⟩
  rw [wk_dec] at hv ⊢
  have hsl := hv.sl Sact.len
  obtain ⟨_, rfl, r, hbl, _⟩ := hv.there (by decide)
  obtain ⟨cA, tA, fA, hA, hcell, _⟩ := hsl.elem (i := 1) (by omega) (by decide) (cat_part Sact.len (xs := wkA) (i := 1) (a := ⟨7, 1, 5⟩) rfl)
  have z2 := hcell 2 (by omega)
  rw [show (Sact.enc ⟨7, 1, 5⟩)[2]? = some (.int .i64 5) from rfl] at z2
  have C2 := Lib.hid (C1.out.trans c2)
  have HQ := Lib.hid ((HT.out.keep (C1.out.trans c2) (by simp)).old)
  clear hv hbe c2 hsl hbl hcell C1
  rw [show wkA.length = 2 from rfl]
  go_wp2_with fail
  refine (sround_any 2 3 [0, 0, 0, 0, 0] 0 w2 HQ.out).mono ?_
  rintro e w3 ⟨A3, c3, be3, rfl, _, _, cc3⟩
  rw [wk_rnd]
  have C3 := Lib.hid (C2.out.trans cc3)
  clear cc3 C2
  go_wp2_with fail
  go_ret
  exact ⟨rfl, C3.out⟩
end Go.Proofs.YtapkjbefdooclaaDoor
