/- What a statement of layer 13 needs further, and for the last file the statement itself: for every argument. No condition. -/
import Derived.Test.YtcjoinhngdfdmaaGreatDoorCTa
import Derived.Below
import Derived.BigQuiet
import Derived.ChangeAlike
import Derived.ChangeArms
import Derived.ChangeKeysEq
import Derived.Deep.Cut
import Derived.Deep.CutBlock
import Derived.Deep.CutRange
import Derived.Deep.DeepCutAuto
import Derived.Deep.MidRow
import Derived.Deep.Quiet
import Derived.Deep.QuietTactic
import Derived.Deep.RegionHeld3
import Derived.Deep.RegionLaw
import Derived.Deep.RegionWith
import Derived.DeepKeys
import Derived.Defers
import Derived.IntWalk
import Derived.Laws.Bits64b
import Derived.Laws.BitsAllLaws
import Derived.Laws.Entries
import Derived.Laws.LoneSync
import Derived.Laws.NewBlocks
import Derived.Laws.Pointers
import Derived.Laws.StructEq
import Derived.Lib.Hide
import Derived.Lib.SliceRun
import Derived.Maps.OwnOps
import Derived.OpenShut
import Derived.OwnWalk
import Derived.ProofKit
import Derived.RegionCalls
import Derived.RegionTactic
import Derived.StillTail
import Derived.StillTailTactics
import Derived.Tactics
import Derived.Tactics2
import Derived.Test.YtcjoinhngdfdmaaGreatDoorChecked
import Derived.WalkKit
import Derived.WideShapes
section
namespace Go.Proofs.YtcjoinhngdfdmaaGreatDoor
open Go.RowKit
set_option linter.unusedVariables false
set_option maxHeartbeats 1000000

set_option maxRecDepth 100000
attribute [local go_sem ↓] append_appS copy_copS clear_clrS make_mkS cell_row frozen_row heap_drew heap_drewN heap_alloc heap_past heap_setCell heap_putRow loadSe storeSe loadIns storeIns loadEv storeEv loadRg storeRg sec_kd sec_li sec_wo sec_va sec_sn insc_op insc_a insc_b insc_c insc_im evc_kd evc_co evc_li evc_wo evc_va coc_id coc_ru coc_reg coc_pr coc_pc coc_qb coc_wt
attribute [local go_sem] rowCell_some rowFrozen_some rowHas_some rowIn_some rowPart_full rowPut_full rowSet_some run_loadS run_storeS run_appS run_copS run_clrS run_mkS loadW_at storeW_at fit_all fit_le one_int one_bool one_pointer one_slice allOne_list putRow_new ne_size1 ne_size2 wideSe wideIns wideEv wideRg sec_size sec_one sec_lit sec_z sec_ne sec_set0 sec_set1 sec_set2 sec_set3 seZ_kd seZ_li seZ_wo seZ_va seZ_sn insc_size insc_one insc_ne insc_lit insc_z evc_size evc_one evc_ne evc_lit evc_z evc_set0 evc_set1 evc_set2 evc_set3 evc_set4 evZ_kd evZ_co evZ_li evZ_wo evZ_va fold_evc coc_setRu coc_size coc_setPc coc_setWt coc_setReg coc_regs vs_size vs_one
attribute [local simp ↓] heap_drew heap_drewN heap_alloc heap_past heap_setCell heap_putRow
attribute [local simp] rowCell_some rowFrozen_some rowHas_some rowIn_some rowPart_full rowPut_full rowSet_some fit_all putRow_new ne_size1 ne_size2 sec_size insc_size evc_size coc_size coc_setRu coc_setPc coc_setWt coc_setReg vs_size fit_le
attribute [local go_sem] insc_set0 insc_set1 insc_set2 insc_set3 insc_set4 insZ_op insZ_a insZ_b insZ_c insZ_im
/-! ### bellowsref10's Decode of any word -/
theorem rencode_bad (i : Ins) (w : World) (h : goodI i = false) (h0 : 0 ≤ i.op) (pa : 0 ≤ i.a) (pb : 0 ≤ i.b) (pc : 0 ≤ i.c) : Calls Tryz.prog 39 #[.agg (insc i)] w fun e w' => e = .returned (.tuple #[.int .u64 0, .int .i64 11]) ∧ Chg [] w w' := by
  have hx : (w.alloc (.cells (insc i) 33)).heap[w.heap.size]? = some (.cells (insc i) 33 (0, 0)) := by simp
  have HC := Lib.hid ((Chg.refl [] w).alloc (.cells (insc i) 33))
  have HG := Lib.hid (fun w => rgood_eq i h0 pa pb pc w)
  rw [h] at HG
  clear h
  go_enter Tryz.func39, Tryz.ntmps39
  go_wp2_with (go_at_call 75; refine (HG.out _).mono ?_; rintro e w2 ⟨rfl, rfl⟩)
  go_ret2
  exact ⟨rfl, HC.out.alloc _⟩
theorem insOf_pos {u : Int} (h0 : 0 ≤ u) : 0 ≤ (insOf u).op ∧ 0 ≤ (insOf u).a ∧ 0 ≤ (insOf u).b ∧ 0 ≤ (insOf u).c := by
  unfold insOf
  refine ⟨?_, ?_, ?_, ?_⟩ <;> simp only <;> omega
theorem w64_small {x : Int} (h0 : 0 ≤ x) (h1 : x < 9223372036854775808) : wrap64 x = x := by
  have : wrap64 x = (x + 9223372036854775808) % 18446744073709551616 - 9223372036854775808 := by simp [wrap64]
  omega
theorem rdecode (u : Int) (h0 : 0 ≤ u) (h64 : u < 18446744073709551616) (w : World) : Calls Tryz.prog 30 #[.int .u64 u] w fun e w' => e = .returned (.tuple #[.agg (insc (decI u)), .int .i64 (if decB u then 0 else 11)]) ∧ Chg [] w w' := by
  have e1 := w64_small (x := u / 4294967296) (by omega) (by omega)
  have e2 := w64_small (x := u % 256) (by omega) (by omega)
  have e3 := w64_small (x := u / 256 % 16) (by omega) (by omega)
  have e4 := w64_small (x := u / 4096 % 16) (by omega) (by omega)
  have e5 := w64_small (x := u / 65536 % 16) (by omega) (by omega)
  have HZ : (putRow ((w.alloc (.cells (insc insZ) 33)).alloc (.cells (insc insZ) 33)) (w.heap.size + 1) 0 (insc (insOf u))).heap[w.heap.size]? = some (.cells (insc insZ) 33 (0, 0)) := by
    rw [heap_putRow _ _ _ _ _ (by simp [rowHas, Fit, insc_size]), if_neg (by omega)]
    simp
  have HY : (putRow ((w.alloc (.cells (insc insZ) 33)).alloc (.cells (insc insZ) 33)) (w.heap.size + 1) 0 (insc (insOf u))).heap[w.heap.size + 1]? = some (.cells (insc (insOf u)) 33 (0, 0)) := by
    rw [heap_putRow _ _ _ _ _ (by simp [rowHas, Fit, insc_size]), if_pos rfl]
    simp
  have HC := Lib.hid ((((Chg.refl [] w).alloc (.cells (insc insZ) 33)).alloc (.cells (insc insZ) 33)).putRow (w.heap.size + 1) 0 (insc (insOf u)) (.inr (by omega)))
  have HN := Lib.hid (show w.heap.size ≤ w.heap.size by omega)
  have HO := Lib.hid (insOf_pos h0)
  by_cases hh : u / 4294967296 < 2147483648
  · have hI : (⟨u % 256, u / 256 % 16, u / 4096 % 16, u / 65536 % 16, u / 4294967296⟩ : Ins) = insOf u := by
      unfold insOf imOf
      rw [if_pos hh]
    have t1 : ¬ 2147483648 ≤ u / 4294967296 := by omega
    cases hg : goodI (insOf u) with
    | false =>
      have hd : decB u = false := by unfold decB; rw [hg]; rfl
      have DB := Lib.hid hd
      have DI := Lib.hid (show decI u = insZ by unfold decI; rw [hd]; rfl)
      clear hd
      rw [DI.out, DB.out]
      go_enter Tryz.func30, Tryz.ntmps30
      try dsimp only [List.append]
      go_wp2_with fail
      generalize putRow ((w.alloc (.cells (insc insZ) 33)).alloc (.cells (insc insZ) 33)) (w.heap.size + 1) 0 (insc (insOf u)) = w1 at HZ HY HC ⊢
      clear hI e1 e2 e3 e4 e5
      refine (rencode_bad (insOf u) w1 hg HO.out.1 HO.out.2.1 HO.out.2.2.1 HO.out.2.2.2).mono ?_
      rintro e w2 ⟨rfl, c2⟩
      have hz := c2.keep HZ (by simp)
      have hy := c2.keep HY (by simp)
      have HC2 := Lib.hid (HC.out.trans c2)
      clear HZ HY c2
      go_wp2_with fail
      refine bodyPost_ret (v := .tuple #[.agg (insc insZ), .int .i64 11]) (results_ins2 (by rfl) _ _ w.heap.size insZ (0, 0) (by rfl) (by simp [*]; try rfl) _ (by rfl)) (by rfl) ⟨rfl, HC2.out.putRow _ _ _ (.inr HN.out)⟩
    | true =>
      cases hc : codeI (insOf u) == u with
      | false =>
        have hd : decB u = false := by unfold decB; rw [hg, hc]; rfl
        have DB := Lib.hid hd
        have DI := Lib.hid (show decI u = insZ by unfold decI; rw [hd]; rfl)
        have hne : (codeI (insOf u) != u) = true := by simp [bne, hc]
        clear hd hc
        rw [DI.out, DB.out]
        go_enter Tryz.func30, Tryz.ntmps30
        try dsimp only [List.append]
        go_wp2_with fail
        generalize putRow ((w.alloc (.cells (insc insZ) 33)).alloc (.cells (insc insZ) 33)) (w.heap.size + 1) 0 (insc (insOf u)) = w1 at HZ HY HC ⊢
        clear hI e1 e2 e3 e4 e5
        refine (rencode (insOf u) hg w1).mono ?_
        rintro e w2 ⟨rfl, c2⟩
        have hz := c2.keep HZ (by simp)
        have hy := c2.keep HY (by simp)
        have HC2 := Lib.hid (HC.out.trans c2)
        clear HZ HY c2
        go_wp2_with fail
        refine bodyPost_ret (v := .tuple #[.agg (insc insZ), .int .i64 11]) (results_ins2 (by rfl) _ _ w.heap.size insZ (0, 0) (by rfl) (by simp [*]; try rfl) _ (by rfl)) (by rfl) ⟨rfl, HC2.out.putRow _ _ _ (.inr HN.out)⟩
      | true =>
        have hd : decB u = true := by unfold decB; rw [hg, hc]; rfl
        have DB := Lib.hid hd
        have DI := Lib.hid (show decI u = insOf u by unfold decI; rw [hd]; rfl)
        have hne : (codeI (insOf u) != u) = false := by simp [bne, hc]
        clear hd hc
        rw [DI.out, DB.out]
        go_enter Tryz.func30, Tryz.ntmps30
        try dsimp only [List.append]
        go_wp2_with fail
        generalize putRow ((w.alloc (.cells (insc insZ) 33)).alloc (.cells (insc insZ) 33)) (w.heap.size + 1) 0 (insc (insOf u)) = w1 at HZ HY HC ⊢
        clear hI e1 e2 e3 e4 e5
        refine (rencode (insOf u) hg w1).mono ?_
        rintro e w2 ⟨rfl, c2⟩
        have hz := c2.keep HZ (by simp)
        have hy := c2.keep HY (by simp)
        have HC2 := Lib.hid (HC.out.trans c2)
        clear HZ HY c2
        go_wp2_with fail
        refine bodyPost_ret (v := .tuple #[.agg (insc (insOf u)), .int .i64 0]) (results_ins2 (by rfl) _ _ w.heap.size (insOf u) (0, 0) (by rfl) (by rw [heap_putRow _ _ _ _ _ (by rw [hz]; simp [rowHas, Fit, insc_size]), if_pos rfl, hz]; exact rowPut_full _ _ _ _ (by rw [insc_size, insc_size])) _ (by rfl)) (by rfl) ⟨rfl, HC2.out.putRow _ _ _ (.inr HN.out)⟩
  · have hI : (⟨u % 256, u / 256 % 16, u / 4096 % 16, u / 65536 % 16, u / 4294967296 - 4294967296⟩ : Ins) = insOf u := by
      unfold insOf imOf
      rw [if_neg hh]
    have t1 : 2147483648 ≤ u / 4294967296 := by omega
    cases hg : goodI (insOf u) with
    | false =>
      have hd : decB u = false := by unfold decB; rw [hg]; rfl
      have DB := Lib.hid hd
      have DI := Lib.hid (show decI u = insZ by unfold decI; rw [hd]; rfl)
      clear hd
      rw [DI.out, DB.out]
      go_enter Tryz.func30, Tryz.ntmps30
      try dsimp only [List.append]
      go_wp2_with fail
      generalize putRow ((w.alloc (.cells (insc insZ) 33)).alloc (.cells (insc insZ) 33)) (w.heap.size + 1) 0 (insc (insOf u)) = w1 at HZ HY HC ⊢
      clear hI e1 e2 e3 e4 e5
      refine (rencode_bad (insOf u) w1 hg HO.out.1 HO.out.2.1 HO.out.2.2.1 HO.out.2.2.2).mono ?_
      rintro e w2 ⟨rfl, c2⟩
      have hz := c2.keep HZ (by simp)
      have hy := c2.keep HY (by simp)
      have HC2 := Lib.hid (HC.out.trans c2)
      clear HZ HY c2
      go_wp2_with fail
      refine bodyPost_ret (v := .tuple #[.agg (insc insZ), .int .i64 11]) (results_ins2 (by rfl) _ _ w.heap.size insZ (0, 0) (by rfl) (by simp [*]; try rfl) _ (by rfl)) (by rfl) ⟨rfl, HC2.out.putRow _ _ _ (.inr HN.out)⟩
    | true =>
      cases hc : codeI (insOf u) == u with
      | false =>
        have hd : decB u = false := by unfold decB; rw [hg, hc]; rfl
        have DB := Lib.hid hd
        have DI := Lib.hid (show decI u = insZ by unfold decI; rw [hd]; rfl)
        have hne : (codeI (insOf u) != u) = true := by simp [bne, hc]
        clear hd hc
        rw [DI.out, DB.out]
        go_enter Tryz.func30, Tryz.ntmps30
        try dsimp only [List.append]
        go_wp2_with fail
        generalize putRow ((w.alloc (.cells (insc insZ) 33)).alloc (.cells (insc insZ) 33)) (w.heap.size + 1) 0 (insc (insOf u)) = w1 at HZ HY HC ⊢
        clear hI e1 e2 e3 e4 e5
        refine (rencode (insOf u) hg w1).mono ?_
        rintro e w2 ⟨rfl, c2⟩
        have hz := c2.keep HZ (by simp)
        have hy := c2.keep HY (by simp)
        have HC2 := Lib.hid (HC.out.trans c2)
        clear HZ HY c2
        go_wp2_with fail
        refine bodyPost_ret (v := .tuple #[.agg (insc insZ), .int .i64 11]) (results_ins2 (by rfl) _ _ w.heap.size insZ (0, 0) (by rfl) (by simp [*]; try rfl) _ (by rfl)) (by rfl) ⟨rfl, HC2.out.putRow _ _ _ (.inr HN.out)⟩
      | true =>
        have hd : decB u = true := by unfold decB; rw [hg, hc]; rfl
        have DB := Lib.hid hd
        have DI := Lib.hid (show decI u = insOf u by unfold decI; rw [hd]; rfl)
        have hne : (codeI (insOf u) != u) = false := by simp [bne, hc]
        clear hd hc
        rw [DI.out, DB.out]
        go_enter Tryz.func30, Tryz.ntmps30
        try dsimp only [List.append]
        go_wp2_with fail
        generalize putRow ((w.alloc (.cells (insc insZ) 33)).alloc (.cells (insc insZ) 33)) (w.heap.size + 1) 0 (insc (insOf u)) = w1 at HZ HY HC ⊢
        clear hI e1 e2 e3 e4 e5
        refine (rencode (insOf u) hg w1).mono ?_
        rintro e w2 ⟨rfl, c2⟩
        have hz := c2.keep HZ (by simp)
        have hy := c2.keep HY (by simp)
        have HC2 := Lib.hid (HC.out.trans c2)
        clear HZ HY c2
        go_wp2_with fail
        refine bodyPost_ret (v := .tuple #[.agg (insc (insOf u)), .int .i64 0]) (results_ins2 (by rfl) _ _ w.heap.size (insOf u) (0, 0) (by rfl) (by rw [heap_putRow _ _ _ _ _ (by rw [hz]; simp [rowHas, Fit, insc_size]), if_pos rfl, hz]; exact rowPut_full _ _ _ _ (by rw [insc_size, insc_size])) _ (by rfl)) (by rfl) ⟨rfl, HC2.out.putRow _ _ _ (.inr HN.out)⟩
end Go.Proofs.YtcjoinhngdfdmaaGreatDoor
end
section
namespace Go.Proofs.YtcjoinhngdfdmaaGreatDoor
open Go.RowKit
set_option linter.unusedVariables false
set_option maxHeartbeats 1000000

set_option maxRecDepth 100000
attribute [local go_sem ↓] append_appS copy_copS clear_clrS make_mkS cell_row frozen_row heap_drew heap_drewN heap_alloc heap_past heap_setCell heap_putRow loadSe storeSe loadIns storeIns loadEv storeEv loadRg storeRg sec_kd sec_li sec_wo sec_va sec_sn insc_op insc_a insc_b insc_c insc_im evc_kd evc_co evc_li evc_wo evc_va coc_id coc_ru coc_reg coc_pr coc_pc coc_qb coc_wt
attribute [local go_sem] rowCell_some rowFrozen_some rowHas_some rowIn_some rowPart_full rowPut_full rowSet_some run_loadS run_storeS run_appS run_copS run_clrS run_mkS loadW_at storeW_at fit_all fit_le one_int one_bool one_pointer one_slice allOne_list putRow_new ne_size1 ne_size2 wideSe wideIns wideEv wideRg sec_size sec_one sec_lit sec_z sec_ne sec_set0 sec_set1 sec_set2 sec_set3 seZ_kd seZ_li seZ_wo seZ_va seZ_sn insc_size insc_one insc_ne insc_lit insc_z evc_size evc_one evc_ne evc_lit evc_z evc_set0 evc_set1 evc_set2 evc_set3 evc_set4 evZ_kd evZ_co evZ_li evZ_wo evZ_va fold_evc coc_setRu coc_size coc_setPc coc_setWt coc_setReg coc_regs vs_size vs_one
attribute [local simp ↓] heap_drew heap_drewN heap_alloc heap_past heap_setCell heap_putRow
attribute [local simp] rowCell_some rowFrozen_some rowHas_some rowIn_some rowPart_full rowPut_full rowSet_some fit_all putRow_new ne_size1 ne_size2 sec_size insc_size evc_size coc_size coc_setRu coc_setPc coc_setWt coc_setReg vs_size fit_le
attribute [local go_sem ↓] heap_drewN
attribute [local go_sem] insc_set0 insc_set1 insc_set2 insc_set3 insc_set4 insZ_op insZ_a insZ_b insZ_c insZ_im
/-! ### CoreTraps: walked -/
theorem cloneU {w0 w : World} {q eb : Nat} {A : Option Addr} {n c : Nat} {ys : List Int} (h0 : Chg [] w0 w) (hq : Old w0 q) (hE : w.heap[eb]? = some (.cells #[] 43 (0, 0))) (he : w0.heap.size ≤ eb)
    (hs : Sl w 1 A n (cat uenc ys)) (hm : ys.length = n) (h5 : n ≤ 5000) :
    ∃ (be' cap' : Nat) (A' : Option Addr) (w' : World), appR Tryz.prog 37 37 #[.slice (some ⟨eb, 0, none⟩) 0 0, .slice A n c] w = .ok (.slice A' n cap') w' ∧ Vec 1 43 uenc w' q be' A' cap' ys ∧ (be' = q ∨ w0.heap.size ≤ be') ∧ Chg [] w0 w' := by
  have hne : eb ≠ q := by have := hq.lt; omega
  have hv : Vec 1 43 uenc w q eb (some ⟨eb, 0, none⟩) 0 ([] : List Int) := .inr ⟨hne, rfl, by simp, [], by rw [hE]; rfl, by simp⟩
  obtain ⟨be', cap', A', w', h1, h2, h3, h4⟩ := Vec.acc (ty := 37) eltU h0 hv (.inr he) hq hs (c := c) hm (by simp; omega) (by simp only [maxLen]; simp; omega)
  simp only [List.length_nil, Nat.zero_add, List.nil_append] at h1 h2
  exact ⟨be', cap', A', w', h1, h2, h3, h4⟩
theorem nops_at {k j : Nat} (l : List Int) (h : j < k) : (List.replicate k nopU ++ l)[j]? = some nopU := by
  rw [List.getElem?_append_left (by simpa using h), List.getElem?_replicate, if_pos h]
theorem nops_next (k j : Nat) (l : List Int) : (List.replicate k nopU ++ l)[k + j]? = l[j]? := by
  rw [List.getElem?_append_right (by simp), List.length_replicate, Nat.add_sub_cancel_left]
theorem nop_good : ∀ i ∈ [nopI], goodI i = true := by decide
theorem tell_good : ∀ i ∈ [(⟨21, 1, 0, 0, 0⟩ : Ins)], goodI i = true := by decide
def twoI (a : Int) : List Ins := [⟨1, 1, 0, 0, a⟩, stxI]
theorem twoI_code (a : Int) : (twoI a).map codeI = [liU a, stU] := rfl
theorem two_good {a : Int} (h : 0 ≤ a ∧ a < 65536) : ∀ i ∈ twoI a, goodI i = true := by
  intro i hi
  unfold twoI at hi
  simp only [List.mem_cons, List.not_mem_nil, or_false] at hi
  rcases hi with rfl | rfl
  · exact li_good h
  · decide
theorem word_app {a b : List Int} (ha : ∀ u ∈ a, 0 ≤ u ∧ u < 18446744073709551616) (hb : ∀ u ∈ b, 0 ≤ u ∧ u < 18446744073709551616) : ∀ u ∈ a ++ b, 0 ≤ u ∧ u < 18446744073709551616 := by
  intro u hu
  rcases List.mem_append.1 hu with h | h
  · exact ha u h
  · exact hb u h
theorem word_good {is : List Ins} (hg : ∀ i ∈ is, goodI i = true) : ∀ u ∈ is.map codeI, 0 ≤ u ∧ u < 18446744073709551616 := by
  intro u hu
  obtain ⟨i, hi, rfl⟩ := List.mem_map.1 hu
  exact (dec_code (hg i hi)).2.2
theorem word_nops (k : Nat) : ∀ u ∈ List.replicate k nopU, 0 ≤ u ∧ u < 18446744073709551616 := by
  intro u hu
  obtain rfl := List.eq_of_mem_replicate hu
  exact word_good nop_good _ (by simp [nopU])
theorem tb2 (w : World) (a b : Ins) : (Instr.buildSlice 31 2 #[(0, .agg (insc a)), (1, .agg (insc b))]).run Tryz.prog w = .ok (.slice (some ⟨w.heap.size, 0, none⟩) 2 2) (w.alloc (.cells (cat Ins.enc [a, b]).toArray 33)) := by
  obtain ⟨a1, a2, a3, a4, a5⟩ := a
  obtain ⟨b1, b2, b3, b4, b5⟩ := b
  kernel_rfl
theorem tb3 (ρ : Operand → Value) (o : Oper) (x y : Operand) (ho : o.op = Op.buildSlice 31 2 #[(0, x), (1, y)]) (w : World) (a b : Ins) (hx : ρ x = .agg (insc a)) (hy : ρ y = .agg (insc b)) :
    (execOp ρ o).run Tryz.prog w = .ok (.value (.slice (some ⟨w.heap.size, 0, none⟩) 2 2)) (w.alloc (.cells (cat Ins.enc [a, b]).toArray 33)) := by
  have h := tb2 w a b
  unfold execOp
  rw [ho]
  simp only [List.map_toArray, List.map_cons, List.map_nil, hx, hy, Sem.run_bind, h, Result.andThen_ok]
  rfl
/-- A slice of words, of its own. -/
def PU (W w : World) (q : Nat) (A : Option Addr) (cap : Nat) (us : List Int) : Prop := ∃ be, Vec 1 43 uenc w q be A cap us ∧ (be = q ∨ W.heap.size ≤ be) ∧ Chg [] W w
theorem PU.chg {W w w' : World} {q cap : Nat} {A : Option Addr} {us : List Int} (h : PU W w q A cap us) (hc : Chg [] w w') : PU W w' q A cap us := by
  obtain ⟨be, h1, h2, h3⟩ := h
  exact ⟨be, h1.keep hc (by simp), h2, h3.trans hc⟩
theorem PU.sl {W w : World} {q cap : Nat} {A : Option Addr} {us : List Int} (h : PU W w q A cap us) : Sl w 1 A us.length (us.map (Value.int .u64)) := by
  obtain ⟨be, h1, _⟩ := h
  have := h1.sl uenc_len
  rwa [cat_uenc] at this
/-- Words behind it. -/
theorem PU.app {W w : World} {q cap : Nat} {A : Option Addr} {us : List Int} (h : PU W w q A cap us) (hq : Old W q) {B : Option Addr} {m c : Nat} {ys : List Int} (hs : Sl w 1 B m (cat uenc ys)) (hm : ys.length = m) (h5 : us.length + m ≤ 5000) :
    ∃ (cap' : Nat) (A' : Option Addr) (w' : World), appR Tryz.prog 37 37 #[.slice A us.length cap, .slice B m c] w = .ok (.slice A' (us.length + m) cap') w' ∧ PU W w' q A' cap' (us ++ ys) := by
  obtain ⟨be, h1, h2, h3⟩ := h
  obtain ⟨be', cap', A', w', g1, g2, g3, g4⟩ := Vec.acc (ty := 37) eltU h3 h1 h2 hq hs (c := c) hm (by omega) (by simp only [maxLen]; omega)
  exact ⟨cap', A', w', g1, be', g2, g3, g4⟩
set_option maxHeartbeats 40000000 in
theorem ctraps (W : World) (hT : Tabs W) (n bad addr : Nat) (hn : n < 256) (hbad : bad < 18446744073709551616) (haddr : addr < 65536) : Calls Tryz.prog 8 #[.int .u8 n, .int .u64 bad, .int .u16 addr] W fun e w' => e = .returned (.bool true) ∧ Chg [] W w' := by
  have HT := Lib.hid hT
  have HQ := Lib.hid (show Old W 1 from hT.1.elim fun _ h => h.elim fun _ h => old h)
  have HBAD := Lib.hid hbad
  have HADD := Lib.hid haddr
  obtain ⟨k, hk⟩ : ∃ k : Nat, (n : Int) % 6 = (k : Int) := ⟨n % 6, by omega⟩
  have HK := Lib.hid (show k < 6 by omega)
  have hk6 : (k : Int) < 6 := by omega
  obtain ⟨m, hm⟩ : ∃ m : Nat, (n : Int) / 6 % 3 = (m : Int) := ⟨n / 6 % 3, by omega⟩
  have HM := Lib.hid (show m < 3 by omega)
  clear hT
  go_enter Tryz.func8, Tryz.ntmps8
  try dsimp only [List.append]
  go_wp2_with fail
  go_loopw [7, 8] (fun p i wr => ∃ (j cap : Nat) (A : Option Addr), j ≤ k ∧ i = .int .i64 j ∧ p = .slice A j cap ∧ PU W wr 1 A cap (List.replicate j nopU)) (fun _ i _ => k - (intOf i).toNat)
  case atStart => exact ⟨0, 0, none, by omega, rfl, rfl, _, Vec.nil .., .inl rfl, Chg.refl _ _⟩
  case round =>
    obtain ⟨j, cap, A, hj, rfl, rfl, hp⟩ := hrel
    have HP := Lib.hid hp
    clear hp
    by_cases hlt : j < k
    · have g1 : (j : Int) < (k : Int) := by omega
      have HLT := Lib.hid hlt
      clear hlt hj
      go_upto_region 5 with (fail)
      go_step
      iterate 5 (first | go_values | go_skip | go_guarded | go_step)
      go_at_K
      go_step
      go_step
      refine wp_value (v := .slice (some ⟨wr.heap.size, 0, none⟩) 1 1) (w' := wr.alloc (.cells (cat Ins.enc [nopI]).toArray 33)) (by kernel_rfl) ?_
      have c2 : Chg [] wr (wr.alloc (.cells (cat Ins.enc [nopI]).toArray 33)) := (Chg.refl [] wr).alloc _
      have hb2 : (wr.alloc (.cells (cat Ins.enc [nopI]).toArray 33)).heap[wr.heap.size]? = some (.cells (cat Ins.enc [nopI]).toArray 33 (0, 0)) := by simp
      have hsl : Sl (wr.alloc (.cells (cat Ins.enc [nopI]).toArray 33)) 5 (some ⟨wr.heap.size, 0, none⟩) 1 (cat Ins.enc [nopI]) := ⟨rfl, .inr ⟨wr.heap.size, 0, _, _, (0, 0), rfl, hb2, rfl⟩⟩
      have HSL := Lib.hid hsl
      have HP1 := Lib.hid (HP.out.chg c2)
      clear c2 hb2 hsl HP
      generalize wr.alloc (.cells (cat Ins.enc [nopI]).toArray 33) = w1 at *
      generalize wr.heap.size = p1 at *
      go_at_K
      go_wp2_with fail
      refine (rcode (q := 1) HSL.out rfl (by omega) nop_good (by obtain ⟨_, _, _, h⟩ := HP1.out; exact HQ.out.chg h)).mono ?_
      rintro e w2 ⟨be, A2, c2, rfl, hv, _, hc⟩
      have hp2 := HP1.out.chg hc
      have hs1 : Sl w2 1 A2 1 (cat uenc [nopU]) := hv.sl uenc_len
      obtain ⟨cap', A', w3, happ, hp3⟩ := hp2.app HQ.out (B := A2) (m := 1) (c := c2) hs1 rfl (by rw [List.length_replicate]; have := HK.out; have := HLT.out; show j + 1 ≤ 5000; omega)
      rw [List.length_replicate] at happ
      have HP3 := Lib.hid hp3
      clear hv hc hp2 hp3 HP1 HSL hs1
      go_wp2_with fail
      refine ⟨⟨j + 1, cap', A', by have := HLT.out; omega, by go_num, rfl, ?_⟩, ?_⟩
      · have := HP3.out
        rw [List.replicate_succ']
        exact this
      · have := HLT.out
        simp [intOf]
        omega
    · obtain rfl : j = k := by omega
      clear hlt hj
      have hl0 : (List.replicate j nopU).length = j := List.length_replicate
      rcases (show m = 0 ∨ m = 1 ∨ m = 2 by have := HM.out; omega) with rfl | rfl | rfl
      · as_aux_lemma =>
        cases hd : decB (bad : Int) with
        | true =>
          go_wp2_with (first | (go_at_call 30; refine (rdecode bad (by omega) (by have := HBAD.out; omega) _).mono ?_; rintro e w4 ⟨rfl, c4⟩; have C4 := Lib.hid ((show Chg [] W wr by obtain ⟨_, _, _, h⟩ := HP.out; exact h).trans c4); clear c4; rw [hd, if_pos rfl]))
          refine (cwakes _ (HT.out.1.keep (C4.out.alloc (.cells (insc (decI (bad : Int))) 33)) (by simp))).mono ?_
          rintro e w5 ⟨rfl, c5⟩
          have C5 := Lib.hid ((C4.out.alloc (.cells (insc (decI (bad : Int))) 33)).trans c5)
          clear c5
          go_wp2_with fail
          go_ret
          exact ⟨rfl, C5.out⟩
        | false =>
          as_aux_lemma =>
          have hpc : Chg [] W wr := by obtain ⟨_, _, _, h⟩ := HP.out; exact h
          go_upto_region 11 with (go_at_call 30; refine (rdecode bad (by omega) (by have := HBAD.out; omega) _).mono ?_; rintro e w4 ⟨rfl, c4⟩; have C4 := Lib.hid c4; clear c4; rw [hd, if_neg (by decide)])
          have HP4 := Lib.hid (HP.out.chg (C4.out.alloc (.cells (insc (decI (bad : Int))) 33)))
          clear C4 HP hpc
          generalize w4.alloc (.cells (insc (decI (bad : Int))) 33) = w4b at *
          generalize w4.heap.size = p4 at *
          have c6 := (Chg.refl [] w4b).alloc (.cells #[.int .u64 (bad : Int)] 43)
          have hb6 : (w4b.alloc (.cells #[.int .u64 (bad : Int)] 43)).heap[w4b.heap.size]? = some (.cells #[.int .u64 (bad : Int)] 43 (0, 0)) := by simp
          obtain ⟨cp5, A5, w5, happ5, hp5⟩ := (HP4.out.chg c6).app HQ.out (B := some ⟨w4b.heap.size, 0, none⟩) (m := 1) (c := 1) (ys := [(bad : Int)]) ⟨rfl, .inr ⟨w4b.heap.size, 0, _, _, (0, 0), rfl, hb6, rfl⟩⟩ rfl (by rw [hl0]; have := HK.out; omega)
          rw [hl0] at happ5
          have HP5 := Lib.hid hp5
          clear c6 hb6 hp5 HP4
          go_upto_region 16 with fail
          clear happ5
          have HWD := Lib.hid (show ∀ u ∈ (List.replicate j nopU ++ [(bad : Int)]) ++ [tellU], 0 ≤ u ∧ u < 18446744073709551616 from word_app (word_app (word_nops j) (by intro u hu; simp only [List.mem_singleton] at hu; subst hu; have := HBAD.out; omega)) (word_good tell_good))
          have c6 := (Chg.refl [] w5).alloc (.cells #[] 43)
          have hE : (w5.alloc (.cells #[] 43)).heap[w5.heap.size]? = some (.cells #[] 43 (0, 0)) := by simp
          have hcW : Chg [] W w5 := by obtain ⟨_, _, _, h⟩ := HP5.out; exact h
          have hlu : (List.replicate j nopU ++ [(bad : Int)]).length = j + 1 := by simp
          have hsq : Sl (w5.alloc (.cells #[] 43)) 1 A5 (j + 1) (cat uenc (List.replicate j nopU ++ [(bad : Int)])) := by
            obtain ⟨be, h1, _⟩ := HP5.out
            have := (h1.keep c6 (by simp)).sl uenc_len
            rwa [hlu] at this
          obtain ⟨be1, cp1, A1, w8, e1, v1, b1, k1⟩ := cloneU (c := cp5) c6 (HQ.out.chg hcW) hE (Nat.le_refl _) hsq hlu (by have := HK.out; omega)
          have HP8 := Lib.hid (show PU W w8 1 A1 cp1 (List.replicate j nopU ++ [(bad : Int)]) from ⟨be1, v1, by rcases b1 with b1 | b1; exact .inl b1; exact .inr (Nat.le_trans hcW.size b1), hcW.trans k1⟩)
          have HK8 := Lib.hid k1
          clear c6 hE hcW hsq v1 b1 k1
          go_upto_region 16 with fail
          go_step
          iterate 11 (first | go_values | go_skip | go_guarded | go_step)
          go_at_K
          go_step
          go_step
          refine wp_value (v := .slice (some ⟨w8.heap.size, 0, none⟩) 1 1) (w' := w8.alloc (.cells (cat Ins.enc [(⟨21, 1, 0, 0, 0⟩ : Ins)]).toArray 33)) (by kernel_rfl) ?_
          have c2 : Chg [] w8 (w8.alloc (.cells (cat Ins.enc [(⟨21, 1, 0, 0, 0⟩ : Ins)]).toArray 33)) := (Chg.refl [] w8).alloc _
          have hb2 : (w8.alloc (.cells (cat Ins.enc [(⟨21, 1, 0, 0, 0⟩ : Ins)]).toArray 33)).heap[w8.heap.size]? = some (.cells (cat Ins.enc [(⟨21, 1, 0, 0, 0⟩ : Ins)]).toArray 33 (0, 0)) := by simp
          have hsl : Sl (w8.alloc (.cells (cat Ins.enc [(⟨21, 1, 0, 0, 0⟩ : Ins)]).toArray 33)) 5 (some ⟨w8.heap.size, 0, none⟩) 1 (cat Ins.enc [(⟨21, 1, 0, 0, 0⟩ : Ins)]) := ⟨rfl, .inr ⟨w8.heap.size, 0, _, _, (0, 0), rfl, hb2, rfl⟩⟩
          have HSL := Lib.hid hsl
          have HP9 := Lib.hid (HP8.out.chg c2)
          have HK9 := Lib.hid (HK8.out.trans c2)
          clear c2 hb2 hsl HP8 HK8 e1
          generalize w8.alloc (.cells (cat Ins.enc [(⟨21, 1, 0, 0, 0⟩ : Ins)]).toArray 33) = w9 at *
          generalize w8.heap.size = p9 at *
          go_at_K
          go_wp2_with fail
          refine (rcode (q := 1) HSL.out rfl (by omega) tell_good (by obtain ⟨_, _, _, h⟩ := HP9.out; exact HQ.out.chg h)).mono ?_
          rintro e w10 ⟨be3, A3, c3, rfl, hv, _, hc⟩
          have hp2 := HP9.out.chg hc
          have hs1 : Sl w10 1 A3 1 (cat uenc [tellU]) := hv.sl uenc_len
          obtain ⟨cp4, A4, w11, happ, hp3⟩ := hp2.app HQ.out (B := A3) (m := 1) (c := c3) hs1 rfl (by rw [hlu]; have := HK.out; omega)
          rw [hlu] at happ
          have HP11 := Lib.hid hp3
          have HK11 := Lib.hid (show Chg [] w5 w10 from HK9.out.trans hc)
          clear hv hc hp2 hp3 HP9 HSL hs1 HK9
          go_wp2_with fail
          have hcW : Chg [] W w11 := by obtain ⟨_, _, _, h⟩ := HP11.out; exact h
          have hlu2 : ((List.replicate j nopU ++ [(bad : Int)]) ++ [tellU]).length = j + 1 + 1 := by rw [List.length_append, hlu]; rfl
          have hsF : Sl w11 1 A4 (j + 1 + 1) (((List.replicate j nopU ++ [(bad : Int)]) ++ [tellU]).map (Value.int .u64)) := by
            have := HP11.out.sl
            rw [hlu2] at this
            exact this
          have TR := Lib.hid (trap_of_bad ((List.replicate j nopU ++ [(bad : Int)]) ++ [tellU]) (k := j) (u := bad) (by rw [List.append_assoc]; exact nops_next j 0 _) hd (fun i hi => by rw [List.append_assoc]; exact nops_at _ hi))
          have HCW := Lib.hid hcW
          have ht : tellsA (runA ((List.replicate j nopU ++ [(bad : Int)]) ++ [tellU]) (j + 1)).ev = [] := by rw [TR.out.ev]; rfl
          refine (alone_any w11 ⟨HT.out.1.keep hcW (by simp), HT.out.2.keep hcW (by simp)⟩ hsF hlu2 (by have := HK.out; omega) HWD.out 100 (j + 1) (by omega) (by have := HK.out; omega) (by have := HK.out; omega) TR.out.ru TR.out.al TR.out.off).mono ?_
          rintro e w12 ⟨At, Aa, ct, ca, rfl, _, hse, hc⟩
          rw [TR.out.ev] at hse
          rw [ht, TR.out.ev]
          have n0 : ([] : List Int).length = 0 := rfl
          have n1 : [(⟨10, 0, 0, 0, 0⟩ : Ev)].length = 1 := rfl
          rw [n1] at hse
          rw [n0, n1]
          have HC12 := Lib.hid (HCW.out.trans hc)
          obtain ⟨b0, o0, hA⟩ := hse.addr (by omega)
          subst hA
          obtain ⟨cA, tA, fA, hA, hcell, _⟩ := hse.elem (i := 0) (by omega) (by omega) (ys := Ev.enc ⟨10, 0, 0, 0, 0⟩) rfl
          have q0 := hcell 0 (by omega)
          have q1 := hcell 1 (by omega)
          simp only [Nat.zero_mul, Nat.add_zero] at q0
          simp only [Nat.zero_mul, Nat.add_zero] at q1
          rw [show (Ev.enc ⟨10, 0, 0, 0, 0⟩)[0]? = some (.int .i64 10) from rfl] at q0
          rw [show (Ev.enc ⟨10, 0, 0, 0, 0⟩)[1]? = some (.int .i64 0) from rfl] at q1
          clear hse hcell hc n0 n1 ht hcW hsF hlu
          go_wp2_with (go_at_call 12; refine (cwakes _ (HT.out.1.keep HC12.out (by simp))).mono ?_; rintro e w13 ⟨rfl, c13⟩; have C13 := Lib.hid (HC12.out.trans c13); clear c13)
          go_ret
          exact ⟨rfl, C13.out⟩
      · as_aux_lemma =>
        have ha0 : 0 ≤ (addr : Int) := by omega
        have ha6 : (addr : Int) < 65536 := by have := HADD.out; omega
        have HC0 := Lib.hid (show Chg [] W wr by obtain ⟨_, _, _, h⟩ := HP.out; exact h)
        by_cases h8 : (addr : Int) % 8 = 0
        · have t8 : ((addr : Int) % 8 == 0) = true := by simpa using h8
          by_cases h384 : (addr : Int) < 384
          · clear h8
            go_wp2_with (go_at_call 12; refine (cwakes _ (HT.out.1.keep HC0.out (by simp))).mono ?_; rintro e w5 ⟨rfl, c5⟩; have C5 := Lib.hid (HC0.out.trans c5); clear c5)
            go_ret
            exact ⟨rfl, C5.out⟩
          · have HNB := Lib.hid (show ¬ ((addr : Int) % 8 = 0 ∧ (addr : Int) < 384) by omega)
            clear h8
            go_upto_region 15 with fail
            go_step
            iterate 14 (first | go_values | go_skip | go_guarded | go_step)
            go_at_K
            go_step
            go_step
            refine wp_value (v := .slice (some ⟨wr.heap.size, 0, none⟩) 2 2) (w' := wr.alloc (.cells (cat Ins.enc (twoI addr)).toArray 33)) (tb3 _ _ _ _ rfl wr ⟨1, 1, 0, 0, (addr : Int)⟩ stxI rfl rfl) ?_
            have c2 : Chg [] wr (wr.alloc (.cells (cat Ins.enc (twoI addr)).toArray 33)) := (Chg.refl [] wr).alloc _
            have hb2 : (wr.alloc (.cells (cat Ins.enc (twoI addr)).toArray 33)).heap[wr.heap.size]? = some (.cells (cat Ins.enc (twoI addr)).toArray 33 (0, 0)) := by simp
            have hsl : Sl (wr.alloc (.cells (cat Ins.enc (twoI addr)).toArray 33)) 5 (some ⟨wr.heap.size, 0, none⟩) 2 (cat Ins.enc (twoI addr)) := ⟨rfl, .inr ⟨wr.heap.size, 0, _, _, (0, 0), rfl, hb2, rfl⟩⟩
            have HSL := Lib.hid hsl
            have HP1 := Lib.hid (HP.out.chg c2)
            clear c2 hb2 hsl HP
            generalize wr.alloc (.cells (cat Ins.enc (twoI addr)).toArray 33) = w1 at *
            generalize wr.heap.size = p1 at *
            go_at_K
            go_wp2_with fail
            refine (rcode (q := 1) HSL.out rfl (by omega) (two_good ⟨ha0, ha6⟩) (by obtain ⟨_, _, _, h⟩ := HP1.out; exact HQ.out.chg h)).mono ?_
            rintro e w2 ⟨be, A2, c2, rfl, hv, _, hc⟩
            have hp2 := HP1.out.chg hc
            have hs1 : Sl w2 1 A2 2 (cat uenc [liU addr, stU]) := by
              rw [← twoI_code]; exact hv.sl uenc_len
            obtain ⟨cp5, A5, w5, happ5, hp5⟩ := hp2.app HQ.out (B := A2) (m := 2) (c := c2) hs1 rfl (by rw [hl0]; have := HK.out; omega)
            rw [hl0] at happ5
            have HP5 := Lib.hid hp5
            clear hv hc hp2 hp5 HP1 HSL hs1
            go_upto_region 16 with fail
            clear happ5
            have HWD := Lib.hid (show ∀ u ∈ (List.replicate j nopU ++ [liU addr, stU]) ++ [tellU], 0 ≤ u ∧ u < 18446744073709551616 from word_app (word_app (word_nops j) (word_good (two_good ⟨ha0, ha6⟩))) (word_good tell_good))
            have c6 := (Chg.refl [] w5).alloc (.cells #[] 43)
            have hE : (w5.alloc (.cells #[] 43)).heap[w5.heap.size]? = some (.cells #[] 43 (0, 0)) := by simp
            have hcW : Chg [] W w5 := by obtain ⟨_, _, _, h⟩ := HP5.out; exact h
            have hlu : (List.replicate j nopU ++ [liU addr, stU]).length = j + 2 := by simp
            have hsq : Sl (w5.alloc (.cells #[] 43)) 1 A5 (j + 2) (cat uenc (List.replicate j nopU ++ [liU addr, stU])) := by
              obtain ⟨be, h1, _⟩ := HP5.out
              have := (h1.keep c6 (by simp)).sl uenc_len
              rwa [hlu] at this
            obtain ⟨be1, cp1, A1, w8, e1, v1, b1, k1⟩ := cloneU (c := cp5) c6 (HQ.out.chg hcW) hE (Nat.le_refl _) hsq hlu (by have := HK.out; omega)
            have HP8 := Lib.hid (show PU W w8 1 A1 cp1 (List.replicate j nopU ++ [liU addr, stU]) from ⟨be1, v1, by rcases b1 with b1 | b1; exact .inl b1; exact .inr (Nat.le_trans hcW.size b1), hcW.trans k1⟩)
            have HK8 := Lib.hid k1
            clear c6 hE hcW hsq v1 b1 k1
            go_upto_region 16 with fail
            go_step
            iterate 11 (first | go_values | go_skip | go_guarded | go_step)
            go_at_K
            go_step
            go_step
            refine wp_value (v := .slice (some ⟨w8.heap.size, 0, none⟩) 1 1) (w' := w8.alloc (.cells (cat Ins.enc [(⟨21, 1, 0, 0, 0⟩ : Ins)]).toArray 33)) (by kernel_rfl) ?_
            have c2 : Chg [] w8 (w8.alloc (.cells (cat Ins.enc [(⟨21, 1, 0, 0, 0⟩ : Ins)]).toArray 33)) := (Chg.refl [] w8).alloc _
            have hb2 : (w8.alloc (.cells (cat Ins.enc [(⟨21, 1, 0, 0, 0⟩ : Ins)]).toArray 33)).heap[w8.heap.size]? = some (.cells (cat Ins.enc [(⟨21, 1, 0, 0, 0⟩ : Ins)]).toArray 33 (0, 0)) := by simp
            have hsl : Sl (w8.alloc (.cells (cat Ins.enc [(⟨21, 1, 0, 0, 0⟩ : Ins)]).toArray 33)) 5 (some ⟨w8.heap.size, 0, none⟩) 1 (cat Ins.enc [(⟨21, 1, 0, 0, 0⟩ : Ins)]) := ⟨rfl, .inr ⟨w8.heap.size, 0, _, _, (0, 0), rfl, hb2, rfl⟩⟩
            have HSL := Lib.hid hsl
            have HP9 := Lib.hid (HP8.out.chg c2)
            have HK9 := Lib.hid (HK8.out.trans c2)
            clear c2 hb2 hsl HP8 HK8 e1
            generalize w8.alloc (.cells (cat Ins.enc [(⟨21, 1, 0, 0, 0⟩ : Ins)]).toArray 33) = w9 at *
            generalize w8.heap.size = p9 at *
            go_at_K
            go_wp2_with fail
            refine (rcode (q := 1) HSL.out rfl (by omega) tell_good (by obtain ⟨_, _, _, h⟩ := HP9.out; exact HQ.out.chg h)).mono ?_
            rintro e w10 ⟨be3, A3, c3, rfl, hv, _, hc⟩
            have hp2 := HP9.out.chg hc
            have hs1 : Sl w10 1 A3 1 (cat uenc [tellU]) := hv.sl uenc_len
            obtain ⟨cp4, A4, w11, happ, hp3⟩ := hp2.app HQ.out (B := A3) (m := 1) (c := c3) hs1 rfl (by rw [hlu]; have := HK.out; omega)
            rw [hlu] at happ
            have HP11 := Lib.hid hp3
            have HK11 := Lib.hid (show Chg [] w5 w10 from HK9.out.trans hc)
            clear hv hc hp2 hp3 HP9 HSL hs1 HK9
            go_wp2_with fail
            have hcW : Chg [] W w11 := by obtain ⟨_, _, _, h⟩ := HP11.out; exact h
            have hlu2 : ((List.replicate j nopU ++ [liU addr, stU]) ++ [tellU]).length = j + 2 + 1 := by rw [List.length_append, hlu]; rfl
            have hsF : Sl w11 1 A4 (j + 2 + 1) (((List.replicate j nopU ++ [liU addr, stU]) ++ [tellU]).map (Value.int .u64)) := by
              have := HP11.out.sl
              rw [hlu2] at this
              exact this
            have TR := Lib.hid (trap_of_addr ((List.replicate j nopU ++ [liU addr, stU]) ++ [tellU]) (k := j) (a := addr) ⟨ha0, ha6⟩ HNB.out (by rw [List.append_assoc]; exact nops_next j 0 _) (by rw [List.append_assoc]; exact nops_next j 1 _) (fun i hi => by rw [List.append_assoc]; exact nops_at _ hi))
            have HCW := Lib.hid hcW
            have ht : tellsA (runA ((List.replicate j nopU ++ [liU addr, stU]) ++ [tellU]) (j + 2)).ev = [] := by rw [TR.out.ev]; rfl
            refine (alone_any w11 ⟨HT.out.1.keep hcW (by simp), HT.out.2.keep hcW (by simp)⟩ hsF hlu2 (by have := HK.out; omega) HWD.out 100 (j + 2) (by omega) (by have := HK.out; omega) (by have := HK.out; omega) TR.out.ru TR.out.al TR.out.off).mono ?_
            rintro e w12 ⟨At, Aa, ct, ca, rfl, _, hse, hc⟩
            rw [TR.out.ev] at hse
            rw [ht, TR.out.ev]
            have n0 : ([] : List Int).length = 0 := rfl
            have n1 : [(⟨10, 0, 0, 0, 0⟩ : Ev)].length = 1 := rfl
            rw [n1] at hse
            rw [n0, n1]
            have HC12 := Lib.hid (HCW.out.trans hc)
            obtain ⟨b0, o0, hA⟩ := hse.addr (by omega)
            subst hA
            obtain ⟨cA, tA, fA, hA, hcell, _⟩ := hse.elem (i := 0) (by omega) (by omega) (ys := Ev.enc ⟨10, 0, 0, 0, 0⟩) rfl
            have q0 := hcell 0 (by omega)
            have q1 := hcell 1 (by omega)
            simp only [Nat.zero_mul, Nat.add_zero] at q0
            simp only [Nat.zero_mul, Nat.add_zero] at q1
            rw [show (Ev.enc ⟨10, 0, 0, 0, 0⟩)[0]? = some (.int .i64 10) from rfl] at q0
            rw [show (Ev.enc ⟨10, 0, 0, 0, 0⟩)[1]? = some (.int .i64 0) from rfl] at q1
            clear hse hcell hc n0 n1 ht hcW hsF hlu
            go_wp2_with (go_at_call 12; refine (cwakes _ (HT.out.1.keep HC12.out (by simp))).mono ?_; rintro e w13 ⟨rfl, c13⟩; have C13 := Lib.hid (HC12.out.trans c13); clear c13)
            go_ret
            exact ⟨rfl, C13.out⟩
        · have t8 : ((addr : Int) % 8 == 0) = false := by simpa using h8
          have HNB := Lib.hid (show ¬ ((addr : Int) % 8 = 0 ∧ (addr : Int) < 384) by omega)
          clear h8
          go_upto_region 15 with fail
          go_step
          iterate 14 (first | go_values | go_skip | go_guarded | go_step)
          go_at_K
          go_step
          go_step
          refine wp_value (v := .slice (some ⟨wr.heap.size, 0, none⟩) 2 2) (w' := wr.alloc (.cells (cat Ins.enc (twoI addr)).toArray 33)) (tb3 _ _ _ _ rfl wr ⟨1, 1, 0, 0, (addr : Int)⟩ stxI rfl rfl) ?_
          have c2 : Chg [] wr (wr.alloc (.cells (cat Ins.enc (twoI addr)).toArray 33)) := (Chg.refl [] wr).alloc _
          have hb2 : (wr.alloc (.cells (cat Ins.enc (twoI addr)).toArray 33)).heap[wr.heap.size]? = some (.cells (cat Ins.enc (twoI addr)).toArray 33 (0, 0)) := by simp
          have hsl : Sl (wr.alloc (.cells (cat Ins.enc (twoI addr)).toArray 33)) 5 (some ⟨wr.heap.size, 0, none⟩) 2 (cat Ins.enc (twoI addr)) := ⟨rfl, .inr ⟨wr.heap.size, 0, _, _, (0, 0), rfl, hb2, rfl⟩⟩
          have HSL := Lib.hid hsl
          have HP1 := Lib.hid (HP.out.chg c2)
          clear c2 hb2 hsl HP
          generalize wr.alloc (.cells (cat Ins.enc (twoI addr)).toArray 33) = w1 at *
          generalize wr.heap.size = p1 at *
          go_at_K
          go_wp2_with fail
          refine (rcode (q := 1) HSL.out rfl (by omega) (two_good ⟨ha0, ha6⟩) (by obtain ⟨_, _, _, h⟩ := HP1.out; exact HQ.out.chg h)).mono ?_
          rintro e w2 ⟨be, A2, c2, rfl, hv, _, hc⟩
          have hp2 := HP1.out.chg hc
          have hs1 : Sl w2 1 A2 2 (cat uenc [liU addr, stU]) := by
            rw [← twoI_code]; exact hv.sl uenc_len
          obtain ⟨cp5, A5, w5, happ5, hp5⟩ := hp2.app HQ.out (B := A2) (m := 2) (c := c2) hs1 rfl (by rw [hl0]; have := HK.out; omega)
          rw [hl0] at happ5
          have HP5 := Lib.hid hp5
          clear hv hc hp2 hp5 HP1 HSL hs1
          go_upto_region 16 with fail
          clear happ5
          have HWD := Lib.hid (show ∀ u ∈ (List.replicate j nopU ++ [liU addr, stU]) ++ [tellU], 0 ≤ u ∧ u < 18446744073709551616 from word_app (word_app (word_nops j) (word_good (two_good ⟨ha0, ha6⟩))) (word_good tell_good))
          have c6 := (Chg.refl [] w5).alloc (.cells #[] 43)
          have hE : (w5.alloc (.cells #[] 43)).heap[w5.heap.size]? = some (.cells #[] 43 (0, 0)) := by simp
          have hcW : Chg [] W w5 := by obtain ⟨_, _, _, h⟩ := HP5.out; exact h
          have hlu : (List.replicate j nopU ++ [liU addr, stU]).length = j + 2 := by simp
          have hsq : Sl (w5.alloc (.cells #[] 43)) 1 A5 (j + 2) (cat uenc (List.replicate j nopU ++ [liU addr, stU])) := by
            obtain ⟨be, h1, _⟩ := HP5.out
            have := (h1.keep c6 (by simp)).sl uenc_len
            rwa [hlu] at this
          obtain ⟨be1, cp1, A1, w8, e1, v1, b1, k1⟩ := cloneU (c := cp5) c6 (HQ.out.chg hcW) hE (Nat.le_refl _) hsq hlu (by have := HK.out; omega)
          have HP8 := Lib.hid (show PU W w8 1 A1 cp1 (List.replicate j nopU ++ [liU addr, stU]) from ⟨be1, v1, by rcases b1 with b1 | b1; exact .inl b1; exact .inr (Nat.le_trans hcW.size b1), hcW.trans k1⟩)
          have HK8 := Lib.hid k1
          clear c6 hE hcW hsq v1 b1 k1
          go_upto_region 16 with fail
          go_step
          iterate 11 (first | go_values | go_skip | go_guarded | go_step)
          go_at_K
          go_step
          go_step
          refine wp_value (v := .slice (some ⟨w8.heap.size, 0, none⟩) 1 1) (w' := w8.alloc (.cells (cat Ins.enc [(⟨21, 1, 0, 0, 0⟩ : Ins)]).toArray 33)) (by kernel_rfl) ?_
          have c2 : Chg [] w8 (w8.alloc (.cells (cat Ins.enc [(⟨21, 1, 0, 0, 0⟩ : Ins)]).toArray 33)) := (Chg.refl [] w8).alloc _
          have hb2 : (w8.alloc (.cells (cat Ins.enc [(⟨21, 1, 0, 0, 0⟩ : Ins)]).toArray 33)).heap[w8.heap.size]? = some (.cells (cat Ins.enc [(⟨21, 1, 0, 0, 0⟩ : Ins)]).toArray 33 (0, 0)) := by simp
          have hsl : Sl (w8.alloc (.cells (cat Ins.enc [(⟨21, 1, 0, 0, 0⟩ : Ins)]).toArray 33)) 5 (some ⟨w8.heap.size, 0, none⟩) 1 (cat Ins.enc [(⟨21, 1, 0, 0, 0⟩ : Ins)]) := ⟨rfl, .inr ⟨w8.heap.size, 0, _, _, (0, 0), rfl, hb2, rfl⟩⟩
          have HSL := Lib.hid hsl
          have HP9 := Lib.hid (HP8.out.chg c2)
          have HK9 := Lib.hid (HK8.out.trans c2)
          clear c2 hb2 hsl HP8 HK8 e1
          generalize w8.alloc (.cells (cat Ins.enc [(⟨21, 1, 0, 0, 0⟩ : Ins)]).toArray 33) = w9 at *
          generalize w8.heap.size = p9 at *
          go_at_K
          go_wp2_with fail
          refine (rcode (q := 1) HSL.out rfl (by omega) tell_good (by obtain ⟨_, _, _, h⟩ := HP9.out; exact HQ.out.chg h)).mono ?_
          rintro e w10 ⟨be3, A3, c3, rfl, hv, _, hc⟩
          have hp2 := HP9.out.chg hc
          have hs1 : Sl w10 1 A3 1 (cat uenc [tellU]) := hv.sl uenc_len
          obtain ⟨cp4, A4, w11, happ, hp3⟩ := hp2.app HQ.out (B := A3) (m := 1) (c := c3) hs1 rfl (by rw [hlu]; have := HK.out; omega)
          rw [hlu] at happ
          have HP11 := Lib.hid hp3
          have HK11 := Lib.hid (show Chg [] w5 w10 from HK9.out.trans hc)
          clear hv hc hp2 hp3 HP9 HSL hs1 HK9
          go_wp2_with fail
          have hcW : Chg [] W w11 := by obtain ⟨_, _, _, h⟩ := HP11.out; exact h
          have hlu2 : ((List.replicate j nopU ++ [liU addr, stU]) ++ [tellU]).length = j + 2 + 1 := by rw [List.length_append, hlu]; rfl
          have hsF : Sl w11 1 A4 (j + 2 + 1) (((List.replicate j nopU ++ [liU addr, stU]) ++ [tellU]).map (Value.int .u64)) := by
            have := HP11.out.sl
            rw [hlu2] at this
            exact this
          have TR := Lib.hid (trap_of_addr ((List.replicate j nopU ++ [liU addr, stU]) ++ [tellU]) (k := j) (a := addr) ⟨ha0, ha6⟩ HNB.out (by rw [List.append_assoc]; exact nops_next j 0 _) (by rw [List.append_assoc]; exact nops_next j 1 _) (fun i hi => by rw [List.append_assoc]; exact nops_at _ hi))
          have HCW := Lib.hid hcW
          have ht : tellsA (runA ((List.replicate j nopU ++ [liU addr, stU]) ++ [tellU]) (j + 2)).ev = [] := by rw [TR.out.ev]; rfl
          refine (alone_any w11 ⟨HT.out.1.keep hcW (by simp), HT.out.2.keep hcW (by simp)⟩ hsF hlu2 (by have := HK.out; omega) HWD.out 100 (j + 2) (by omega) (by have := HK.out; omega) (by have := HK.out; omega) TR.out.ru TR.out.al TR.out.off).mono ?_
          rintro e w12 ⟨At, Aa, ct, ca, rfl, _, hse, hc⟩
          rw [TR.out.ev] at hse
          rw [ht, TR.out.ev]
          have n0 : ([] : List Int).length = 0 := rfl
          have n1 : [(⟨10, 0, 0, 0, 0⟩ : Ev)].length = 1 := rfl
          rw [n1] at hse
          rw [n0, n1]
          have HC12 := Lib.hid (HCW.out.trans hc)
          obtain ⟨b0, o0, hA⟩ := hse.addr (by omega)
          subst hA
          obtain ⟨cA, tA, fA, hA, hcell, _⟩ := hse.elem (i := 0) (by omega) (by omega) (ys := Ev.enc ⟨10, 0, 0, 0, 0⟩) rfl
          have q0 := hcell 0 (by omega)
          have q1 := hcell 1 (by omega)
          simp only [Nat.zero_mul, Nat.add_zero] at q0
          simp only [Nat.zero_mul, Nat.add_zero] at q1
          rw [show (Ev.enc ⟨10, 0, 0, 0, 0⟩)[0]? = some (.int .i64 10) from rfl] at q0
          rw [show (Ev.enc ⟨10, 0, 0, 0, 0⟩)[1]? = some (.int .i64 0) from rfl] at q1
          clear hse hcell hc n0 n1 ht hcW hsF hlu
          go_wp2_with (go_at_call 12; refine (cwakes _ (HT.out.1.keep HC12.out (by simp))).mono ?_; rintro e w13 ⟨rfl, c13⟩; have C13 := Lib.hid (HC12.out.trans c13); clear c13)
          go_ret
          exact ⟨rfl, C13.out⟩
      · as_aux_lemma =>
        obtain ⟨bp, hvp, hbp, hcp⟩ := HP.out
        have HPE := Lib.hid (fun (w11 : World) (hc : Chg [] wr w11) => (show Sl w11 1 A j ((List.replicate j nopU).map (Value.int .u64)) by
          have := (hvp.keep hc (by simp)).sl uenc_len
          rw [cat_uenc, hl0] at this
          exact this))
        have HP5 := HP
        clear hvp hbp hcp HP
        have c6 := (Chg.refl [] wr).alloc (.cells #[] 43)
        have hE : (wr.alloc (.cells #[] 43)).heap[wr.heap.size]? = some (.cells #[] 43 (0, 0)) := by simp
        have hcW : Chg [] W wr := by obtain ⟨_, _, _, h⟩ := HP5.out; exact h
        have hlu : (List.replicate j nopU).length = j := by simp
        have hsq : Sl (wr.alloc (.cells #[] 43)) 1 A (j) (cat uenc (List.replicate j nopU)) := by
          obtain ⟨be, h1, _⟩ := HP5.out
          have := (h1.keep c6 (by simp)).sl uenc_len
          rwa [hlu] at this
        obtain ⟨be1, cp1, A1, w8, e1, v1, b1, k1⟩ := cloneU (c := cap) c6 (HQ.out.chg hcW) hE (Nat.le_refl _) hsq hlu (by have := HK.out; omega)
        have HP8 := Lib.hid (show PU wr w8 1 A1 cp1 (List.replicate j nopU) from ⟨be1, v1, b1, k1⟩)
        have HQ2 := Lib.hid (HQ.out.chg hcW)
        have HCR := Lib.hid hcW
        have HK8 := Lib.hid k1
        clear c6 hE hcW hsq v1 b1 k1
        go_upto_region 16 with fail
        go_step
        iterate 11 (first | go_values | go_skip | go_guarded | go_step)
        go_at_K
        go_step
        go_step
        refine wp_value (v := .slice (some ⟨w8.heap.size, 0, none⟩) 1 1) (w' := w8.alloc (.cells (cat Ins.enc [(⟨21, 1, 0, 0, 0⟩ : Ins)]).toArray 33)) (by kernel_rfl) ?_
        have c2 : Chg [] w8 (w8.alloc (.cells (cat Ins.enc [(⟨21, 1, 0, 0, 0⟩ : Ins)]).toArray 33)) := (Chg.refl [] w8).alloc _
        have hb2 : (w8.alloc (.cells (cat Ins.enc [(⟨21, 1, 0, 0, 0⟩ : Ins)]).toArray 33)).heap[w8.heap.size]? = some (.cells (cat Ins.enc [(⟨21, 1, 0, 0, 0⟩ : Ins)]).toArray 33 (0, 0)) := by simp
        have hsl : Sl (w8.alloc (.cells (cat Ins.enc [(⟨21, 1, 0, 0, 0⟩ : Ins)]).toArray 33)) 5 (some ⟨w8.heap.size, 0, none⟩) 1 (cat Ins.enc [(⟨21, 1, 0, 0, 0⟩ : Ins)]) := ⟨rfl, .inr ⟨w8.heap.size, 0, _, _, (0, 0), rfl, hb2, rfl⟩⟩
        have HSL := Lib.hid hsl
        have HP9 := Lib.hid (HP8.out.chg c2)
        have HK9 := Lib.hid (HK8.out.trans c2)
        clear c2 hb2 hsl HP8 HK8 e1
        generalize w8.alloc (.cells (cat Ins.enc [(⟨21, 1, 0, 0, 0⟩ : Ins)]).toArray 33) = w9 at *
        generalize w8.heap.size = p9 at *
        go_at_K
        go_wp2_with fail
        refine (rcode (q := 1) HSL.out rfl (by omega) tell_good (by obtain ⟨_, _, _, h⟩ := HP9.out; exact HQ2.out.chg h)).mono ?_
        rintro e w10 ⟨be3, A3, c3, rfl, hv, _, hc⟩
        have hp2 := HP9.out.chg hc
        have hs1 : Sl w10 1 A3 1 (cat uenc [tellU]) := hv.sl uenc_len
        obtain ⟨cp4, A4, w11, happ, hp3⟩ := hp2.app HQ2.out (B := A3) (m := 1) (c := c3) hs1 rfl (by rw [hlu]; have := HK.out; omega)
        rw [hlu] at happ
        have HP11 := Lib.hid hp3
        have HK11 := Lib.hid (show Chg [] wr w10 from HK9.out.trans hc)
        clear hv hc hp2 hp3 HP9 HSL hs1 HK9
        go_wp2_with fail
        have hcR : Chg [] wr w11 := by obtain ⟨_, _, _, h⟩ := HP11.out; exact h
        have hcW : Chg [] W w11 := HCR.out.trans hcR
        have hsF : Sl w11 1 A (j) ((List.replicate j nopU).map (Value.int .u64)) := by
          exact HPE.out w11 hcR
        have TR := Lib.hid (trap_of_end (List.replicate j nopU) (k := j) hl0 (fun i hi => by have := nops_at (k := j) [] hi; rwa [List.append_nil] at this))
        have HCW := Lib.hid hcW
        have ht : tellsA (runA (List.replicate j nopU) (j + 1)).ev = [] := by rw [TR.out.ev]; rfl
        refine (alone_any w11 ⟨HT.out.1.keep hcW (by simp), HT.out.2.keep hcW (by simp)⟩ hsF hlu (by have := HK.out; omega) (word_nops _) 100 (j + 1) (by omega) (by have := HK.out; omega) (by have := HK.out; omega) TR.out.ru TR.out.al TR.out.off).mono ?_
        rintro e w12 ⟨At, Aa, ct, ca, rfl, _, hse, hc⟩
        rw [TR.out.ev] at hse
        rw [ht, TR.out.ev]
        have n0 : ([] : List Int).length = 0 := rfl
        have n1 : [(⟨10, 0, 0, 0, 0⟩ : Ev)].length = 1 := rfl
        rw [n1] at hse
        rw [n0, n1]
        have HC12 := Lib.hid (HCW.out.trans hc)
        obtain ⟨b0, o0, hA⟩ := hse.addr (by omega)
        subst hA
        obtain ⟨cA, tA, fA, hA, hcell, _⟩ := hse.elem (i := 0) (by omega) (by omega) (ys := Ev.enc ⟨10, 0, 0, 0, 0⟩) rfl
        have q0 := hcell 0 (by omega)
        have q1 := hcell 1 (by omega)
        simp only [Nat.zero_mul, Nat.add_zero] at q0
        simp only [Nat.zero_mul, Nat.add_zero] at q1
        rw [show (Ev.enc ⟨10, 0, 0, 0, 0⟩)[0]? = some (.int .i64 10) from rfl] at q0
        rw [show (Ev.enc ⟨10, 0, 0, 0, 0⟩)[1]? = some (.int .i64 0) from rfl] at q1
        clear hse hcell hc n0 n1 ht hcW hsF hlu
        go_wp2_with (go_at_call 12; refine (cwakes _ (HT.out.1.keep HC12.out (by simp))).mono ?_; rintro e w13 ⟨rfl, c13⟩; have C13 := Lib.hid (HC12.out.trans c13); clear c13)
        go_ret
        exact ⟨rfl, C13.out⟩
end Go.Proofs.YtcjoinhngdfdmaaGreatDoor
end
