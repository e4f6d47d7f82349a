/- Texts of the walk, one behind the other: Red Ree Wak Con. No condition. -/
import Derived.Test.YtcjoinhngdfdmaaGreatDoorCNak
import Derived.Test.YtcjoinhngdfdmaaGreatDoorCNam
import Derived.Test.YtcjoinhngdfdmaaGreatDoorCNan
import Derived.Test.YtcjoinhngdfdmaaGreatDoorCNap
section
namespace Go.Proofs.YtcjoinhngdfdmaaGreatDoor
open Go.RowKit
set_option linter.unusedVariables false
set_option maxHeartbeats 1000000

set_option maxRecDepth 100000
attribute [local go_sem ↓] append_appS copy_copS clear_clrS make_mkS cell_row frozen_row heap_drew heap_drewN heap_alloc heap_past heap_setCell heap_putRow loadSe storeSe loadIns storeIns loadEv storeEv loadRg storeRg sec_kd sec_li sec_wo sec_va sec_sn insc_op insc_a insc_b insc_c insc_im evc_kd evc_co evc_li evc_wo evc_va coc_id coc_ru coc_reg coc_pr coc_pc coc_qb coc_wt
attribute [local go_sem] rowCell_some rowFrozen_some rowHas_some rowIn_some rowPart_full rowPart_lit rowPut_full rowPut_lit rowSet_some size_putRow run_loadS run_storeS run_appS run_copS run_clrS run_mkS loadW_at storeW_at fit_all fit_le one_int one_bool one_pointer one_slice allOne_list putRow_new ne_size1 ne_size2 ne_size3 ne_size4 wideSe wideIns wideEv wideRg sec_size sec_one sec_lit sec_z sec_ne sec_set0 sec_set1 sec_set2 sec_set3 sec_set4 seZ_kd seZ_li seZ_wo seZ_va seZ_sn fold_sec insc_size insc_one insc_ne insc_lit insc_z fold_insc evc_size evc_one evc_ne evc_lit evc_z evc_set0 evc_set1 evc_set2 evc_set3 evc_set4 evZ_kd evZ_co evZ_li evZ_wo evZ_va fold_evc coc_setRu coc_size coc_one coc_setPc coc_setWt coc_setReg coc_regs coc_regsIn vs_size vs_one
attribute [local simp ↓] heap_drew heap_drewN heap_alloc heap_past heap_setCell heap_putRow
attribute [local simp] rowCell_some rowFrozen_some rowHas_some rowIn_some rowPart_full rowPart_lit rowPut_full rowPut_lit rowSet_some size_putRow fit_all putRow_new ne_size1 ne_size2 ne_size3 ne_size4 sec_size insc_size evc_size coc_size coc_setRu coc_setPc coc_setWt coc_setReg vs_size fit_le
attribute [local go_sem ↓] heap_drewN
/-! ### Slices of words -/
def uenc (x : Int) : List Value := [.int .u64 x]
theorem uenc_len (x : Int) : (uenc x).length = 1 := rfl
theorem uenc_one (x : Int) : ∀ v ∈ uenc x, v.oneCell' = true := by intro v hv; simp only [uenc, List.mem_singleton] at hv; subst hv; rfl
theorem cat_uenc (xs : List Int) : cat uenc xs = xs.map (Value.int .u64) := by
  induction xs with
  | nil => rfl
  | cons x xs ih => rw [cat_cons, ih]; rfl
theorem u_info : (Tryz.prog.info? 43).map (fun i => (i.zero, i.size, i.bytes)) = some (some (.int .u64 0), 1, 8) := by kernel_rfl
theorem eltU : Elt Tryz.prog 37 43 1 8 (.int .u64 0) uenc where
  slice := Tryz.underlying37
  info := u_info
  zero := rfl
  zone := by intro v hv; simp [Value.cells] at hv; subst hv; rfl
  pos := by omega
  len := uenc_len
  one := uenc_one
theorem rcode {w : World} {q : Nat} {A : Option Addr} {n cap : Nat} {is : List Ins} (hs : Sl w 5 A n (cat Ins.enc is)) (hn : is.length = n) (h5 : n ≤ 5000) (hg : ∀ i ∈ is, goodI i = true) (hq : Old w q) :
    Calls Tryz.prog 14 #[.slice A n cap] w fun e w' => ∃ be A' c', e = .returned (.slice A' n c') ∧ Vec 1 43 uenc w' q be A' c' (is.map codeI) ∧ (be = q ∨ w.heap.size ≤ be) ∧ Chg [] w w' := by
  have HS := Lib.hid hs
  have HN := Lib.hid hn
  have HG := Lib.hid hg
  have HQ := Lib.hid hq
  have H5 := Lib.hid h5
  have hl5 : (n : Int) ≤ 5000 := by omega
  clear hs hn hg hq h5
  go_enter Tryz.func14, Tryz.ntmps14
  go_wp2_with fail
  go_loopw [3, 4] (fun o i wr => ∃ (k be cap' : Nat) (A' : Option Addr), k ≤ n ∧ i = .int .i64 k ∧ o = .slice A' k cap' ∧ Vec 1 43 uenc wr q be A' cap' ((is.take k).map codeI) ∧ (be = q ∨ w.heap.size ≤ be) ∧ Chg [] w wr) (fun _ i _ => n - (intOf i).toNat)
  case atStart => exact ⟨0, q, 0, none, by omega, rfl, rfl, Vec.nil .., .inl rfl, Chg.refl _ _⟩
  case round =>
    obtain ⟨k, be, cap', A', hk, rfl, rfl, hv, hbe, hc⟩ := hrel
    have HV := Lib.hid hv
    have HBE := Lib.hid hbe
    have HC := Lib.hid hc
    clear hv hbe hc
    by_cases hlt : k < n
    · obtain ⟨x, hx⟩ : ∃ x, is[k]? = some x := ⟨is[k]'(by rw [HN.out]; exact hlt), List.getElem?_eq_getElem _⟩
      have HX := Lib.hid hx
      have HLT := Lib.hid hlt
      have HGX := Lib.hid (HG.out x (List.mem_of_getElem? hx))
      have g1 : (k : Int) < (n : Int) := by omega
      have g0 : (0 : Int) ≤ (k : Int) := by omega
      obtain ⟨b0, o0, hA⟩ := HS.out.addr (by omega)
      subst hA
      obtain ⟨cA, tA, fA, hA, _, hpart⟩ := HS.out.elem (by omega) hlt (cat_part Ins.len hx)
      obtain ⟨hin, hpt⟩ := hpart 0 5 (by omega)
      have hAr := HC.out.keep hA (by simp)
      have oA := old hAr
      rw [Nat.add_zero] at hin hpt
      rw [show ((Ins.enc x).drop 0 |>.take 5).toArray = insc x from rfl] at hpt
      clear hx hlt hA hpart
      go_wp2_with fail
      refine (rencode x HGX.out _).mono ?_
      rintro e w1 ⟨rfl, c1⟩
      have c2 : Chg [] wr (w1.alloc (.cells #[.int .u64 (codeI x)] 43)) := c1.alloc _
      have hb2 : (w1.alloc (.cells #[.int .u64 (codeI x)] 43)).heap[w1.heap.size]? = some (.cells #[.int .u64 (codeI x)] 43 (0, 0)) := by simp
      have hsl : Sl (w1.alloc (.cells #[.int .u64 (codeI x)] 43)) 1 (some ⟨w1.heap.size, 0, none⟩) 1 (cat uenc [codeI x]) := ⟨rfl, .inr ⟨w1.heap.size, 0, _, _, (0, 0), rfl, hb2, rfl⟩⟩
      have htk : ((is.take k).map codeI).length = k := by simp; have := HN.out; omega
      obtain ⟨be', cp, A2, w2, happ, hv2, hbe2, hc2⟩ := Vec.acc (ty := 37) eltU (w0 := w) (HC.out.trans c2) (HV.out.keep c2 (by simp)) HBE.out HQ.out hsl (c := 1) rfl (by rw [htk]; have := H5.out; omega) (by rw [htk]; have := H5.out; simp only [maxLen]; omega)
      rw [htk] at happ
      have HV2 := Lib.hid hv2
      have HBE2 := Lib.hid hbe2
      have HC2 := Lib.hid hc2
      clear hv2 hbe2 hc2 hsl hb2 c1 c2
      go_wp2_with fail
      refine ⟨⟨k + 1, be', cp, A2, by have := HLT.out; omega, by go_num, rfl, ?_, HBE2.out, HC2.out⟩, ?_⟩
      · have := HV2.out
        obtain ⟨hk1, hk2⟩ := List.getElem?_eq_some_iff.1 HX.out
        rw [List.take_succ_eq_append_getElem hk1, List.map_append, hk2]
        exact this
      · have := HLT.out
        simp [intOf]
        omega
    · have : k = n := by omega
      subst this
      go_wp2_with fail
      go_ret
      refine ⟨be, A', cap', rfl, ?_, HBE.out, HC.out⟩
      have := HV.out
      rw [List.take_of_length_le (by rw [HN.out]; exact Nat.le_refl _)] at this
      exact this
end Go.Proofs.YtcjoinhngdfdmaaGreatDoor
end
section
namespace Go.Proofs.YtcjoinhngdfdmaaGreatDoor
open Go.RowKit
set_option linter.unusedVariables false
set_option maxHeartbeats 1000000

set_option maxRecDepth 100000
attribute [local go_sem ↓] append_appS copy_copS clear_clrS make_mkS cell_row frozen_row heap_drew heap_drewN heap_alloc heap_past heap_setCell heap_putRow loadSe storeSe loadIns storeIns loadEv storeEv loadRg storeRg sec_kd sec_li sec_wo sec_va sec_sn insc_op insc_a insc_b insc_c insc_im evc_kd evc_co evc_li evc_wo evc_va coc_id coc_ru coc_reg coc_pr coc_pc coc_qb coc_wt
attribute [local go_sem] rowCell_some rowFrozen_some rowHas_some rowIn_some rowPart_full rowPart_lit rowPut_full rowPut_lit rowSet_some size_putRow run_loadS run_storeS run_appS run_copS run_clrS run_mkS loadW_at storeW_at fit_all fit_le one_int one_bool one_pointer one_slice allOne_list putRow_new ne_size1 ne_size2 ne_size3 ne_size4 wideSe wideIns wideEv wideRg sec_size sec_one sec_lit sec_z sec_ne sec_set0 sec_set1 sec_set2 sec_set3 sec_set4 seZ_kd seZ_li seZ_wo seZ_va seZ_sn fold_sec insc_size insc_one insc_ne insc_lit insc_z fold_insc evc_size evc_one evc_ne evc_lit evc_z evc_set0 evc_set1 evc_set2 evc_set3 evc_set4 evZ_kd evZ_co evZ_li evZ_wo evZ_va fold_evc coc_setRu coc_size coc_one coc_setPc coc_setWt coc_setReg coc_regs coc_regsIn vs_size vs_one
attribute [local simp ↓] heap_drew heap_drewN heap_alloc heap_past heap_setCell heap_putRow
attribute [local simp] rowCell_some rowFrozen_some rowHas_some rowIn_some rowPart_full rowPart_lit rowPut_full rowPut_lit rowSet_some size_putRow fit_all putRow_new ne_size1 ne_size2 ne_size3 ne_size4 sec_size insc_size evc_size coc_size coc_setRu coc_setPc coc_setWt coc_setReg vs_size fit_le
attribute [local go_sem ↓] heap_drewN
/-- Exec does what the document says, where the word is none of those that reckon. -/
def noAlu (Q : Co) : Prop := ∀ u r, Q.pr[Q.pc]? = some (u, r) → decB u = true → (insOf u).op < 2 ∨ 7 < (insOf u).op
theorem xexec {W w : World} {c : Cg} {sy n : Nat} {F : List Nat} {S : Mst} {cur : Nat → List Int} {kb pb qb : Nat} {Q : Co} (h : CS W w c sy F S kb pb qb Q) (hI : Inv c n S cur) (hN : NN cur) (hn : n + 1 ≤ 1000000000) (hR : Roomy c S) (hR2 : ∀ li wo, Roomy c (loadM c S Q.id li wo).1) (hT : Tab W) (hA : noAlu Q) :
    Calls Tryz.prog 17 #[.pointer (some ⟨kb, 0, none⟩), .pointer (some ⟨sy, 0, none⟩)] w (CSTo W w c sy F kb pb qb (execC c S Q).S (execC c S Q).Q (execC c S Q).ev) := by
  unfold execC
  cases hru : Q.ru
  · exact xexec_off h hru sy
  rw [if_pos rfl]
  cases hx : Q.pr[Q.pc]? with
  | none => exact xexec_end h hru (by rw [List.getElem?_eq_none_iff] at hx; exact hx) sy
  | some x =>
    obtain ⟨u, r⟩ := x
    dsimp only
    cases hd : decB u
    · exact xexec_bad h hI hN hn hR hR2 hT hru hx hd
    rw [if_pos rfl]
    have hg : goodI (insOf u) = true := by unfold decB at hd; rw [Bool.and_eq_true] at hd; exact hd.1
    have hr := (goodI_parts hg).1
    have ha := hA u r hx hd
    have hop : (insOf u).op = 0 ∨ (insOf u).op = 1 ∨ (insOf u).op = 8 ∨ (insOf u).op = 9 ∨ (insOf u).op = 10 ∨ (insOf u).op = 11 ∨ (insOf u).op = 12 ∨ (insOf u).op = 13 ∨ (insOf u).op = 14 ∨ (insOf u).op = 15 ∨ (insOf u).op = 16 ∨ (insOf u).op = 17 ∨ (insOf u).op = 18 ∨ (insOf u).op = 19 ∨ (insOf u).op = 20 ∨ (insOf u).op = 21 ∨ (insOf u).op = 22 := by omega
    unfold insC
    rcases hop with hk | hk | hk | hk | hk | hk | hk | hk | hk | hk | hk | hk | hk | hk | hk | hk | hk
    · rw [if_pos hk]
      exact xexec_0 h hI hN hn hR hR2 hT hru hx hd hk
    · rw [if_neg (by omega), if_pos hk]
      exact xexec_1 h hI hN hn hR hR2 hT hru hx hd hk
    · rw [if_neg (by omega), if_neg (by omega), if_neg (by omega), if_neg (by omega), if_neg (by omega), if_neg (by omega), if_neg (by omega)]
      exact xexec_8 h hI hN hn hR hR2 hT hru hx hd hk
    · rw [if_neg (by omega), if_neg (by omega), if_neg (by omega), if_neg (by omega), if_neg (by omega), if_neg (by omega), if_neg (by omega)]
      exact xexec_9 h hI hN hn hR hR2 hT hru hx hd hk
    · rw [if_neg (by omega), if_neg (by omega), if_neg (by omega), if_neg (by omega), if_neg (by omega), if_neg (by omega), if_neg (by omega)]
      exact xexec_10 h hI hN hn hR hR2 hT hru hx hd hk
    · rw [if_neg (by omega), if_neg (by omega), if_neg (by omega), if_neg (by omega), if_neg (by omega), if_neg (by omega), if_neg (by omega)]
      exact xexec_11 h hI hN hn hR hR2 hT hru hx hd hk
    · rw [if_neg (by omega), if_neg (by omega), if_neg (by omega), if_neg (by omega), if_neg (by omega), if_neg (by omega), if_neg (by omega)]
      exact xexec_12 h hI hN hn hR hR2 hT hru hx hd hk
    · rw [if_neg (by omega), if_neg (by omega), if_neg (by omega), if_neg (by omega), if_neg (by omega), if_neg (by omega), if_neg (by omega)]
      exact xexec_13 h hI hN hn hR hR2 hT hru hx hd hk
    · rw [if_neg (by omega), if_neg (by omega), if_neg (by omega), if_neg (by omega), if_neg (by omega), if_neg (by omega), if_neg (by omega)]
      exact xexec_14 h hI hN hn hR hR2 hT hru hx hd hk
    · rw [if_neg (by omega), if_neg (by omega), if_neg (by omega), if_neg (by omega), if_neg (by omega), if_neg (by omega), if_pos (by omega)]
      have e := xexec_15 h hI hN hn hR hR2 hT hru hx hd hk
      split
      · rename_i hs; rw [if_pos hs, if_pos hs] at e; exact e
      · rename_i hs; rw [if_neg hs, if_neg hs] at e; exact e
    · rw [if_neg (by omega), if_neg (by omega), if_neg (by omega), if_neg (by omega), if_neg (by omega), if_neg (by omega), if_pos (by omega)]
      have e := xexec_16 h hI hN hn hR hR2 hT hru hx hd hk
      split
      · rename_i hs; rw [if_pos hs, if_pos hs] at e; exact e
      · rename_i hs; rw [if_neg hs, if_neg hs] at e; exact e
    · rw [if_neg (by omega), if_neg (by omega), if_neg (by omega), if_pos (by omega)]
      exact xexec_17 h hI hN hn hR hR2 hT hru hx hd hk
    · rw [if_neg (by omega), if_neg (by omega), if_neg (by omega), if_pos (by omega)]
      exact xexec_18 h hI hN hn hR hR2 hT hru hx hd hk
    · rw [if_neg (by omega), if_neg (by omega), if_neg (by omega), if_pos (by omega)]
      exact xexec_19 h hI hN hn hR hR2 hT hru hx hd hk
    · rw [if_neg (by omega), if_neg (by omega), if_neg (by omega), if_pos (by omega)]
      exact xexec_20 h hI hN hn hR hR2 hT hru hx hd hk
    · rw [if_neg (by omega), if_neg (by omega), if_neg (by omega), if_neg (by omega), if_pos hk]
      exact xexec_21 h hI hN hn hR hR2 hT hru hx hd hk
    · rw [if_neg (by omega), if_neg (by omega), if_neg (by omega), if_neg (by omega), if_neg (by omega), if_pos hk]
      exact xexec_22 h hI hN hn hR hR2 hT hru hx hd hk
/-- The events of a slice. -/
theorem EvV.look {w : World} {B kb : Nat} {F : List Nat} {v : Value} {x : Ev} (h : EvV w B kb F v [x]) : ∃ be cap, v = .slice (some ⟨be, 0, none⟩) 1 cap ∧ ∃ r, w.heap[be]? = some (.cells (sq Ev.enc [x] r) 45 (0, 0)) ∧ be ≠ kb ∧ B ≤ be ∧ be ∉ F := by
  obtain ⟨A, cap, be, rfl, hv, h1, h2⟩ := h
  rcases hv with ⟨_, _, _, h3⟩ | ⟨h3, rfl, _, r, h4, _⟩
  · cases h3
  · exact ⟨be, cap, rfl, r, h4, h3, h1.resolve_left h3, h2.resolve_left h3⟩
theorem EvV.none {w : World} {B kb : Nat} {F : List Nat} {v : Value} (h : EvV w B kb F v []) : ∃ A cap, v = .slice A 0 cap := by
  obtain ⟨A, cap, be, rfl, _⟩ := h
  exact ⟨A, cap, rfl⟩
end Go.Proofs.YtcjoinhngdfdmaaGreatDoor
end
section
namespace Go.Proofs.YtcjoinhngdfdmaaGreatDoor
open Go.RowKit
set_option linter.unusedVariables false
set_option maxHeartbeats 1000000

set_option maxRecDepth 100000
attribute [local go_sem ↓] append_appS copy_copS clear_clrS make_mkS cell_row frozen_row heap_drew heap_drewN heap_alloc heap_past heap_setCell heap_putRow loadSe storeSe loadIns storeIns loadEv storeEv loadRg storeRg sec_kd sec_li sec_wo sec_va sec_sn insc_op insc_a insc_b insc_c insc_im evc_kd evc_co evc_li evc_wo evc_va coc_id coc_ru coc_reg coc_pr coc_pc coc_qb coc_wt
attribute [local go_sem] rowCell_some rowFrozen_some rowHas_some rowIn_some rowPart_full rowPart_lit rowPut_full rowPut_lit rowSet_some size_putRow run_loadS run_storeS run_appS run_copS run_clrS run_mkS loadW_at storeW_at fit_all fit_le one_int one_bool one_pointer one_slice allOne_list putRow_new ne_size1 ne_size2 ne_size3 ne_size4 wideSe wideIns wideEv wideRg sec_size sec_one sec_lit sec_z sec_ne sec_set0 sec_set1 sec_set2 sec_set3 sec_set4 seZ_kd seZ_li seZ_wo seZ_va seZ_sn fold_sec insc_size insc_one insc_ne insc_lit insc_z fold_insc evc_size evc_one evc_ne evc_lit evc_z evc_set0 evc_set1 evc_set2 evc_set3 evc_set4 evZ_kd evZ_co evZ_li evZ_wo evZ_va fold_evc coc_setRu coc_size coc_one coc_setPc coc_setWt coc_setReg coc_regs coc_regsIn vs_size vs_one
attribute [local simp ↓] heap_drew heap_drewN heap_alloc heap_past heap_setCell heap_putRow
attribute [local simp] rowCell_some rowFrozen_some rowHas_some rowIn_some rowPart_full rowPart_lit rowPut_full rowPut_lit rowSet_some size_putRow fit_all putRow_new ne_size1 ne_size2 ne_size3 ne_size4 sec_size insc_size evc_size coc_size coc_setRu coc_setPc coc_setWt coc_setReg vs_size fit_le
attribute [local go_sem ↓] heap_drewN
attribute [local go_sem] insc_set0 insc_set1 insc_set2 insc_set3 insc_set4 insZ_op insZ_a insZ_b insZ_c insZ_im
/-! ### What every statement of layer 13 wakes -/
def kS0 : Mst := ⟨List.replicate kc.co (pt0 kc), List.replicate kc.li enE, [], List.replicate (kc.li * 8) 0⟩
theorem kI0 : Inv kc 0 kS0 (fun i => ln (List.replicate (kc.li * 8) 0) i) := Inv.fresh kc kc_ok _ (by simp)
theorem kN0 : NN (fun i => ln (List.replicate (kc.li * 8) 0) i) := by
  intro i x hx
  unfold ln at hx
  have := List.mem_of_mem_drop (List.mem_of_mem_take hx)
  rw [List.mem_replicate] at this
  omega
def wi1 : Ins := ⟨1, 1, 0, 0, 5⟩
def wi2 : Ins := ⟨9, 1, 0, 0, 192⟩
def wi3 : Ins := ⟨8, 2, 0, 0, 192⟩
def wi4 : Ins := ⟨8, 3, 0, 0, 193⟩
def wus : List Int := [codeI wi1, codeI wi2, codeI wi3, codeI wi4]
def wq0 : Co := co0 0 2 wus
def wrd (n : Nat) : List (Int × Bool) := [(codeI wi1, decide (1 ≤ n)), (codeI wi2, decide (2 ≤ n)), (codeI wi3, decide (3 ≤ n)), (codeI wi4, decide (4 ≤ n))]
def wse : Se := ⟨9, 3, 0, 5, false⟩
def wq1 : Co := ⟨0, true, [0, 5, 0, 0, 0, 0, 0, 0], wrd 1, 1, 2, [], 0⟩
def wq2 : Co := ⟨0, true, [0, 5, 0, 0, 0, 0, 0, 0], wrd 2, 2, 2, [wse], 0⟩
def wq3 : Co := ⟨0, true, [0, 5, 5, 0, 0, 0, 0, 0], wrd 3, 3, 2, [wse], 0⟩
def wq4 : Co := ⟨0, false, [0, 5, 5, 0, 0, 0, 0, 0], wrd 4, 3, 2, [wse], 0⟩
theorem we1 : execC kc kS0 wq0 = ⟨kS0, wq1, []⟩ := by rfl
theorem we2 : execC kc kS0 wq1 = ⟨kS0, wq2, [⟨12, 0, 3, 0, 5⟩]⟩ := by rfl
theorem we3 : execC kc kS0 wq2 = ⟨kS0, wq3, [⟨2, 0, 3, 0, 5⟩]⟩ := by rfl
theorem we4 : execC kc kS0 wq3 = ⟨kS0, wq4, [⟨10, 0, 0, 0, 0⟩]⟩ := by rfl
theorem wgood : ∀ i ∈ [wi1, wi2, wi3, wi4], goodI i = true := by decide
theorem noAlu_at {Q : Co} {u : Int} {r : Bool} (h : Q.pr[Q.pc]? = some (u, r)) (ho : (insOf u).op < 2 ∨ 7 < (insOf u).op) : noAlu Q := by
  intro u' r' h' _
  rw [h] at h'
  injection h' with h'
  injection h' with h1 h2
  rw [← h1]
  exact ho
theorem xexec_fresh {W w : World} {F : List Nat} {sy kb pb qb : Nat} {Q Q' : Co} {l : List Ev} (h : CS W w kc sy F kS0 kb pb qb Q) (hT : Tab W) (hA : noAlu Q) (he : execC kc kS0 Q = ⟨kS0, Q', l⟩) :
    Calls Tryz.prog 17 #[.pointer (some ⟨kb, 0, none⟩), .pointer (some ⟨sy, 0, none⟩)] w (CSTo W w kc sy F kb pb qb kS0 Q' l) := by
  have := xexec h kI0 kN0 (by omega) (Roomy.of kI0 (by omega)) (fun li wo => Roomy.of (kI0.loadM _ li wo) (by omega)) hT hA
  rw [he] at this
  exact this
/-- The cells of a slice of one event. -/
def evr (x : Ev) (r : List Value) : Array Value := sq Ev.enc [x] r
theorem evr_kd (x : Ev) (r : List Value) : (evr x r)[0]? = some (.int .i64 x.kd) := by simp [evr, sq, cat, Ev.enc]
theorem evr_li (x : Ev) (r : List Value) : (evr x r)[2]? = some (.int .i64 x.li) := by simp [evr, sq, cat, Ev.enc]
theorem evr_va (x : Ev) (r : List Value) : (evr x r)[4]? = some (.int .u64 x.va) := by simp [evr, sq, cat, Ev.enc]
theorem evr_fit (x : Ev) (r : List Value) (k : Nat) (h : k < 5) : Fit k 1 (evr x r).size := by
  show k + 1 ≤ _
  unfold evr
  rw [sq_size Ev.len]
  simp
  omega
attribute [local go_sem ↓] evr_kd evr_li evr_va
theorem evv_one {w : World} {B kb : Nat} {F : List Nat} {v : Value} {x : Ev} (h : EvV w B kb F v [x]) : ∃ be cap r, v = .slice (some ⟨be, 0, none⟩) 1 cap ∧ w.heap[be]? = some (.cells (evr x r) 45 (0, 0)) ∧ be ≠ kb ∧ B ≤ be ∧ be ∉ F := by
  obtain ⟨be, cap, h1, r, h2, h3⟩ := h.look
  exact ⟨be, cap, r, h1, h2, h3⟩
theorem wp_value {P : Program} {o : Oper} {a : Act} {w w' : World} {K : Act → World → Prop} {Q : Exit → Act → World → Prop} {v : Value} (h : (execOp a.eval o).run P w = .ok (.value v) w') (hk : K (a.put o.dst v) w') : o.wp P a w K Q := by
  unfold Oper.wp
  rw [h]
  exact hk
theorem windex (W : World) : (Instr.index 47 (.agg (vs [0, 5, 5, 0, 0, 0, 0, 0])) (.int .i64 2)).run Tryz.prog W = .ok (.int .u64 5) W := by kernel_rfl
attribute [local go_sem ↓] windex
attribute [local go_sem] evr_fit
set_option maxHeartbeats 1000000 in
theorem cwakes (W : World) (hT : Tab W) : Calls Tryz.prog 12 #[] W fun e w' => e = .returned (.bool true) ∧ Chg [] W w' := by
  have HT := Lib.hid hT
  clear hT
  go_enter Tryz.func12, Tryz.ntmps12
  try dsimp only [List.append]
  go_wp2_with fail
  refine (kplain W).mono ?_
  rintro e w0 ⟨rfl, c0⟩
  have C0 := Lib.hid c0
  clear c0
  go_wp2_with fail
  refine (mnew_none W w0 kc kc_ok C0.out none 0).mono ?_
  rintro e w1 ⟨sy, F0, rfl, hm, hc, hk⟩
  have M0 := Lib.hid (show MS W w1 kc sy F0 kS0 from hm)
  have HC0 := Lib.hid (C0.out.trans hc)
  clear hm hc hk
  go_upto_region 2 with (fail)
  go_step
  iterate 11 (first | go_values | go_skip | go_guarded | go_step)
  go_at_K
  go_step
  go_step
  refine wp_value (v := .slice (some ⟨w1.heap.size, 0, none⟩) 4 4) (w' := w1.alloc (.cells (cat Ins.enc [wi1, wi2, wi3, wi4]).toArray 33)) (by kernel_rfl) ?_
  go_at_K
  go_wp2_with fail
  have cW : Chg [] W (w1.alloc (.cells (cat Ins.enc [wi1, wi2, wi3, wi4]).toArray 33)) := HC0.out.alloc _
  have hbb : (w1.alloc (.cells (cat Ins.enc [wi1, wi2, wi3, wi4]).toArray 33)).heap[w1.heap.size]? = some (.cells (cat Ins.enc [wi1, wi2, wi3, wi4]).toArray 33 (0, 0)) := by simp
  have hsl : Sl (w1.alloc (.cells (cat Ins.enc [wi1, wi2, wi3, wi4]).toArray 33)) 5 (some ⟨w1.heap.size, 0, none⟩) 4 (cat Ins.enc [wi1, wi2, wi3, wi4]) := ⟨rfl, .inr ⟨w1.heap.size, 0, _, _, (0, 0), rfl, hbb, rfl⟩⟩
  refine (rcode (q := 1) hsl rfl (by omega) wgood (HT.out.elim fun _ h => h.elim fun _ h => old (cW.keep h (by simp)))).mono ?_
  rintro e w2 ⟨be, A', c', rfl, hv, hbe, hc⟩
  have HC2 := Lib.hid (((Chg.refl [] w1).alloc (.cells (cat Ins.enc [wi1, wi2, wi3, wi4]).toArray 33)).trans hc)
  have hs2 : Sl w2 1 A' 4 (wus.map (Value.int .u64)) := by
    have := Vec.sl uenc_len hv
    rwa [cat_uenc] at this
  have HS2 := Lib.hid hs2
  clear cW hbb hsl hv hbe hc hs2
  go_wp2_with fail
  refine (cnew (us := wus) 0 2 HS2.out rfl (by decide) (by decide) (by decide) (by decide) (by decide)).mono ?_
  rintro e w3 ⟨kb, pb, qb, rfl, hk, hp, hq, hc, hco⟩
  have s1 := HC0.out.size
  have s2 := HC2.out.size
  have hms := Mem.keep M0.out (HC2.out.trans hc)
  have HS0 := Lib.hid (show CS W w3 kc sy F0 kS0 kb pb qb wq0 from ⟨hms, hco, fun h => by have := Mem.old M0.out kb h; omega, fun h => by have := Mem.old M0.out pb h; omega, fun h => by have := Mem.old M0.out qb h; omega, by omega, by omega, by omega⟩)
  have HC3 := Lib.hid (HC0.out.trans (HC2.out.trans hc))
  clear hk hp hq hc hco hms s1 s2
  go_wp2_with fail
  have hTW : Tab W := HT.out
  refine (xexec_fresh HS0.out hTW (noAlu_at (u := codeI wi1) (r := false) rfl (.inl (by decide))) we1).mono ?_
  rintro e w4 ⟨v1, F1, rfl, _, hcs, _, _⟩
  have HS1 := Lib.hid hcs
  clear hcs HS0
  go_wp2_with fail
  refine (xexec_fresh HS1.out hTW (noAlu_at (u := codeI wi2) (r := false) rfl (.inr (by decide))) we2).mono ?_
  rintro e w5 ⟨v2, F2, rfl, hev, hcs, _, _⟩
  obtain ⟨ba, na, ra, rfl, ha, ha1, ha2, ha3⟩ := evv_one hev
  have HS2 := Lib.hid hcs
  have HA2 := Lib.hid ha
  have ha4 := HS1.out.co.oldp.lt
  have ha5 := HS1.out.co.oldq.lt
  have NA := Lib.hid (show ba ≠ kb ∧ ba ≠ pb ∧ ba ≠ qb ∧ ba ∉ F2 from ⟨ha1, by omega, by omega, ha3⟩)
  clear hcs HS1 hev ha ha1 ha2 ha3 ha4 ha5
  go_wp2_with fail
  refine (xexec_fresh HS2.out hTW (noAlu_at (u := codeI wi3) (r := false) rfl (.inr (by decide))) we3).mono ?_
  rintro e w6 ⟨v3, F3, rfl, hev, hcs, hc, hk⟩
  obtain ⟨bb, nb, rb, rfl, hb, hb1, hb2, hb3⟩ := evv_one hev
  have hA3 := hc.keep HA2.out (by have := NA.out; simp; exact ⟨this.1, this.2.1, this.2.2.1, this.2.2.2⟩)
  have hla := (old HA2.out).lt
  have HS3 := Lib.hid hcs
  have HA3 := Lib.hid hA3
  have HB3 := Lib.hid hb
  have hb4 := HS2.out.co.oldp.lt
  have hb5 := HS2.out.co.oldq.lt
  have NB := Lib.hid (show bb ≠ kb ∧ bb ≠ pb ∧ bb ≠ qb ∧ bb ∉ F3 from ⟨hb1, by omega, by omega, hb3⟩)
  have NA3 := Lib.hid (show ba ≠ kb ∧ ba ≠ pb ∧ ba ≠ qb ∧ ba ∉ F3 from ⟨NA.out.1, NA.out.2.1, NA.out.2.2.1, fun hm => by rcases hk ba hm with h | h; exact NA.out.2.2.2 h; omega⟩)
  clear hcs HS2 hev hb hb1 hb2 hb3 hb4 hb5 hc hk hA3 hla HA2 NA
  go_wp2_with fail
  refine (xexec_fresh HS3.out hTW (noAlu_at (u := codeI wi4) (r := false) rfl (.inr (by decide))) we4).mono ?_
  rintro e w7 ⟨v4, F4, rfl, hev, hcs, hc, hk⟩
  obtain ⟨bd, nd, rd, rfl, hd, _, _, _⟩ := evv_one hev
  have hA4 := hc.keep HA3.out (by have := NA3.out; simp; exact ⟨this.1, this.2.1, this.2.2.1, this.2.2.2⟩)
  have hB4 := hc.keep HB3.out (by have := NB.out; simp; exact ⟨this.1, this.2.1, this.2.2.1, this.2.2.2⟩)
  have HS4 := Lib.hid hcs
  clear hcs HS3 hev hc hk HA3 HB3 NA3 NB
  have f0 := fun x r => evr_fit x r 0 (by omega)
  have f2 := fun x r => evr_fit x r 2 (by omega)
  have f4 := fun x r => evr_fit x r 4 (by omega)
  go_wp2_with fail
  have hown : w7.heap[kb]? = some (.cells (coc 0 false [0, 5, 5, 0, 0, 0, 0, 0] pb 4 3 qb 0) 98 (0, 0)) := HS4.out.co.own
  refine (cregs rfl hown).mono ?_
  rintro e w8 ⟨rfl, c8⟩
  have h8 := c8.keep hown (by simp)
  have HS5 := Lib.hid (HS4.out.keep0 c8)
  clear hown c8 HS4 hA4 hB4 hd
  go_wp2_with fail
  refine (cruns h8).mono ?_
  rintro e w9 ⟨rfl, rfl⟩
  clear h8
  go_wp2_with fail
  refine (ebuffer HS5.out).mono ?_
  rintro e w10 ⟨b, rfl, _, c10, _⟩
  have HC := Lib.hid (Mem.chg (HS5.out.keep0 c10).ms)
  clear c10 HS5
  go_wp2_with fail
  go_ret
  exact ⟨rfl, HC.out⟩
end Go.Proofs.YtcjoinhngdfdmaaGreatDoor
end
section
namespace Go.Proofs.YtcjoinhngdfdmaaGreatDoor
open Go.RowKit
set_option linter.unusedVariables false
set_option maxHeartbeats 1000000

set_option maxRecDepth 100000
attribute [local go_sem ↓] append_appS copy_copS clear_clrS make_mkS cell_row frozen_row heap_drew heap_drewN heap_alloc heap_past heap_setCell heap_putRow loadSe storeSe loadIns storeIns loadEv storeEv loadRg storeRg sec_kd sec_li sec_wo sec_va sec_sn insc_op insc_a insc_b insc_c insc_im evc_kd evc_co evc_li evc_wo evc_va coc_id coc_ru coc_reg coc_pr coc_pc coc_qb coc_wt
attribute [local go_sem] rowCell_some rowFrozen_some rowHas_some rowIn_some rowPart_full rowPart_lit rowPut_full rowPut_lit rowSet_some size_putRow run_loadS run_storeS run_appS run_copS run_clrS run_mkS loadW_at storeW_at fit_all fit_le one_int one_bool one_pointer one_slice allOne_list putRow_new ne_size1 ne_size2 ne_size3 ne_size4 wideSe wideIns wideEv wideRg sec_size sec_one sec_lit sec_z sec_ne sec_set0 sec_set1 sec_set2 sec_set3 sec_set4 seZ_kd seZ_li seZ_wo seZ_va seZ_sn fold_sec insc_size insc_one insc_ne insc_lit insc_z fold_insc evc_size evc_one evc_ne evc_lit evc_z evc_set0 evc_set1 evc_set2 evc_set3 evc_set4 evZ_kd evZ_co evZ_li evZ_wo evZ_va fold_evc coc_setRu coc_size coc_one coc_setPc coc_setWt coc_setReg coc_regs coc_regsIn vs_size vs_one
attribute [local simp ↓] heap_drew heap_drewN heap_alloc heap_past heap_setCell heap_putRow
attribute [local simp] rowCell_some rowFrozen_some rowHas_some rowIn_some rowPart_full rowPart_lit rowPut_full rowPut_lit rowSet_some size_putRow fit_all putRow_new ne_size1 ne_size2 ne_size3 ne_size4 sec_size insc_size evc_size coc_size coc_setRu coc_setPc coc_setWt coc_setReg vs_size fit_le
attribute [local go_sem ↓] heap_drewN
/-! ### A core that nobody made, and one without a system -/
theorem ceql0 (w : World) : (Op.equalIn 10000 47 (.agg (vs [0, 0, 0, 0, 0, 0, 0, 0])) (.agg #[Value.int .u64 0, Value.int .u64 0, Value.int .u64 0, Value.int .u64 0, Value.int .u64 0, Value.int .u64 0, Value.int .u64 0, Value.int .u64 0])).run Tryz.prog w = .ok true w := by kernel_rfl
attribute [local go_sem ↓] ceql0 loadMsg
attribute [local go_sem] wideMsg msc_size msc_one
set_option maxHeartbeats 2000000 in
theorem cnone {W : World} {A : Option Addr} {n cap : Nat} {us : List Int} (m : Ms) (hT : Tab W) (hs : Sl W 1 A n (us.map (Value.int .u64))) (hn : us.length = n) (hu : ∀ u ∈ us, 0 ≤ u ∧ u < 18446744073709551616) :
    Calls Tryz.prog 5 #[.agg (msc m), .slice A n cap] W fun e w' => e = .returned (.bool true) ∧ Chg [] W w' := by
  have HT := Lib.hid hT
  have HS := Lib.hid hs
  have HN := Lib.hid hn
  have HU := Lib.hid hu
  clear hT hs hn hu
  go_enter Tryz.func5, Tryz.ntmps5
  try dsimp only [List.append]
  have CB := Lib.hid ((Chg.refl [] W).alloc (.cells (msc m) 50))
  by_cases hlt : (1000 : Int) < (n : Int)
  · go_wp2_with fail
    refine (cwakes _ (HT.out.keep CB.out (by simp))).mono ?_
    rintro e w1 ⟨rfl, c1⟩
    have C1 := Lib.hid (CB.out.trans c1)
    clear c1
    go_wp2_with fail
    go_ret
    exact ⟨rfl, C1.out⟩
  · have h5 : n ≤ 4096 := by omega
    have H5 := Lib.hid h5
    clear h5
    go_wp2_with (first | (go_at_call 25; refine (cstop_nil _).mono ?_; rintro e w' ⟨rfl, rfl⟩))
    refine (cnew (us := us) 0 1 (HS.out.chg CB.out (fun _ _ => by simp)) HN.out H5.out HU.out (by decide) (by decide) (by decide)).mono ?_
    rintro e w2 ⟨kb, pb, qb, rfl, _, _, _, hc, hco⟩
    have HC2 := Lib.hid (CB.out.trans hc)
    have HM2 := hc.keep (show (W.alloc (.cells (msc m) 50)).heap[W.heap.size]? = some (.cells (msc m) 50 (0, 0)) by simp) (by simp)
    have HB2 := Lib.hid (show w2.heap[kb]? = some (.cells (coc 0 true [0, 0, 0, 0, 0, 0, 0, 0] pb (prog0 us).length 0 qb 0) 98 (0, 0)) from hco.own)
    clear hc hco
    go_wp2_with (first
      | (go_at_call 17; refine (cexec_nil _ _).mono ?_; rintro e w' ⟨rfl, rfl⟩)
      | (go_at_call 18; refine (cdrain_nil _ _).mono ?_; rintro e w' ⟨rfl, rfl⟩))
    refine (chear_nil m _).mono ?_
    rintro e w3 ⟨rfl, c3⟩
    have HC3 := Lib.hid (HC2.out.trans c3)
    have HB3 := Lib.hid (c3.keep HB2.out (by simp))
    clear c3 HB2 HM2
    go_wp2_with fail
    refine (cregs_nil _).mono ?_
    rintro e w4 ⟨rfl, c4⟩
    have HC4 := Lib.hid (HC3.out.trans c4)
    have HB4 := Lib.hid (c4.keep HB3.out (by simp))
    clear c4 HB3
    go_wp2_with (first
      | (go_at_call 27; refine (cplace_nil _).mono ?_; rintro e w' ⟨rfl, rfl⟩)
      | (go_at_call 16; refine (cbuffer_nil _).mono ?_; rintro e w' ⟨rfl, rfl⟩)
      | (go_at_call 22; refine (cwaits_nil _).mono ?_; rintro e w' ⟨rfl, rfl⟩)
      | (go_at_call 17; refine (cexec_nos HB4.out).mono ?_; rintro e w' ⟨rfl, rfl⟩)
      | (go_at_call 18; refine (cdrain_nos HB4.out).mono ?_; rintro e w' ⟨rfl, rfl⟩)
      | (go_at_call 15; (first | (with_reducible refine (cruns_nil _).mono ?_) | (refine (cruns HB4.out).mono ?_)); rintro e w' ⟨rfl, rfl⟩)
      | (go_at_call 12; refine (cwakes _ (HT.out.keep HC4.out (by simp))).mono ?_; rintro e w9 ⟨rfl, c9⟩; have HC9 := Lib.hid (HC4.out.trans c9); clear c9))
    go_ret
    exact ⟨rfl, HC9.out⟩
end Go.Proofs.YtcjoinhngdfdmaaGreatDoor
end
