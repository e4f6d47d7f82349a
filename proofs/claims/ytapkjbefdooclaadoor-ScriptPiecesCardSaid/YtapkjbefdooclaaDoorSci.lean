/- Calls of package script on one act, and the document's: walked. No condition. -/
import Derived.Test.YtapkjbefdooclaaDoorSch
import Derived.Test.YtapkjbefdooclaaDoorOpen
import Derived.Test.YtapkjbefdooclaaDoorArgs
import Derived.Test.YtapkjbefdooclaaDoorChecked
import Derived.Laws.LoneSync
import Derived.Lib.SliceRun
import Derived.Deep.RegionHeld3
import Derived.Deep.RegionWith
import Derived.Laws.StructEq
import Derived.ChangeKeysEq
import Derived.BigQuiet
import Derived.BigRegion
import Derived.Deep.QuietTactic
namespace Go.Proofs.YtapkjbefdooclaaDoor
open Go.RowKit
set_option linter.unusedVariables false
set_option maxHeartbeats 1000000

set_option maxRecDepth 100000
attribute [local go_sem ↓] append_appS copy_copS clear_clrS make_mkS slice_slS index_ixS conv_cvS cell_row frozen_row loadAct storeAct heap_drew heap_drewN heap_alloc heap_past heap_setCell heap_putRow sac_kd sac_co sac_li act_eqIn
attribute [local go_sem] rowCell_some rowFrozen_some rowHas_some rowIn_some rowPart_full rowPart_lit rowPut_full rowPut_lit rowSet_some size_putRow wideAct run_loadS run_storeS run_appS run_copS run_clrS run_mkS run_slS run_ixS run_cvS loadW_at storeW_at fit_all fit_le one_int one_bool one_pointer one_slice allOne_list putRow_new ne_size1 ne_size2 ne_size3 ne_size4 sac_size sac_one fold_sac fold_sac2 str_size sac_lit sac_ne sac_set0 sac_set1 sac_set2
attribute [local simp ↓] heap_drew heap_drewN heap_alloc heap_past heap_setCell heap_putRow
attribute [local simp] rowCell_some rowFrozen_some rowHas_some rowIn_some rowPart_full rowPart_lit rowPut_full rowPut_lit rowSet_some size_putRow fit_all putRow_new ne_size1 ne_size2 ne_size3 ne_size4 sac_size
theorem wideCfg16 : Wide Tryd.prog 36 7 := ⟨⟨_, Tryd.underlying36, by rfl⟩, by kernel_rfl⟩
theorem loadCfg16 (x : Value) : Instr.loadAt 36 x = loadS 36 7 x := rfl
attribute [local go_sem ↓] cnf_c cnf_l index_ix5 loadCfg16
attribute [local go_sem] wideCfg16
theorem kacts_same {A B : Option Addr} {n m c c' : Nat} {xs : List Sact} (w : World) (h1 : Sl w 3 A n (cat Sact.enc xs)) (h2 : Sl w 3 B m (cat Sact.enc xs)) (hl : xs.length = n) (hm : xs.length = m) (h5 : n ≤ 100000) :
    Calls Tryd.prog 12 #[.slice A n c, .slice B m c'] w fun e w' => e = .returned (.bool true) ∧ Chg [] w w' := by
  have := kacts_any (c := c) (c' := c') w h1 h2 hl hm h5
  rwa [decide_eq_true rfl] at this
theorem rnd_le (c l : Int) : (rndL c l).length ≤ 168 := by
  unfold rndL
  cases h : okR c l
  · simp
  · obtain ⟨c', l', rfl, rfl, h1, h2, h3, h4⟩ := okR_nat h
    simp only [if_true, rnds_length]
    omega
theorem krounds_any (c l : Int) (r : List Int) (hr : r.length = 5) (W : World) (ht : KTab W) : Calls Tryd.prog 4 #[.agg (cnf c l r)] W fun e w' => e = .returned (.bool true) ∧ Chg [] W w' := by
  have hsz : (cnf c l r).size = 7 := by simp [cnf, hr]
  go_enter Tryd.func4, Tryd.ntmps4
  go_wp2_with fail
  have r0 : (W.alloc (.cells (cnf c l r) 36)).heap[W.heap.size]? = some (.cells (cnf c l r) 36 (0, 0)) := by simp
  have C0 := Lib.hid ((Chg.refl [] W).alloc (.cells (cnf c l r) 36))
  have HT := Lib.hid (ht.keep C0.out (by simp))
  clear ht
  generalize W.heap.size = p at r0 ⊢
  generalize W.alloc (.cells (cnf c l r) 36) = w0 at r0 C0 HT ⊢
  have hle := Lib.hid (Nat.le_trans (rnd_le c l) (show 168 ≤ 100000 by omega))
  go_region_held3 (fun w' => w'.heap[p]? = some (.cells (cnf c l r) 36 (0, 0))) (first | exact T4.keep r0 List.not_mem_nil | exact T3.keep r0 List.not_mem_nil | exact T2.keep r0 List.not_mem_nil | exact T1.keep r0 List.not_mem_nil | exact r0)
    (first
      | (go_at_call 15; refine (sround_any c l r 0 _ (HT.out.keep (Chg.refl [] w0).drew List.not_mem_nil).old).mono ?_; rintro e w' ⟨A1, c1, b1, rfl, hv1, _, cc1⟩; have T1 := (Chg.refl [] w0).drew.trans cc1)
      | (go_at_call 16; refine (rround_any c l r 0 _ (HT.out.keep T1 List.not_mem_nil).old).mono ?_; rintro e w' ⟨A2, c2, b2, rfl, hv2, _, cc2⟩; have T2 := T1.trans cc2)
      | (go_at_call 12; refine (kacts_same _ ((hv1.keep cc2 List.not_mem_nil).sl Sact.len) (hv2.sl Sact.len) rfl rfl hle.out).mono ?_; rintro e w' ⟨rfl, cc3⟩; have T3 := T2.trans cc3)
      | (go_at_call 7; refine (kwakes _ (HT.out.keep T3 List.not_mem_nil)).mono ?_; rintro e w' ⟨rfl, cc4⟩; have T4 := T3.trans cc4))
  all_goals
    go_wp2_with fail
    go_ret
    exact ⟨rfl, C0.out.trans T4⟩
end Go.Proofs.YtapkjbefdooclaaDoor
