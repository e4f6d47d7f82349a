/- Texts of the walk, one behind the other: Coa Mgh Prg Coi Cob Coc Cod Coe. No condition. -/
import Derived.Test.YtcjoinhngdfdmaaGreatDoorCNai
import Derived.Test.YtcjoinhngdfdmaaGreatDoorCNaj
import Derived.Test.YtcjoinhngdfdmaaGreatDoorCNal
import Derived.Test.YtcjoinhngdfdmaaGreatDoorCNam
import Derived.BigQuiet
import Derived.Deep.Cut
import Derived.Deep.CutBlock
import Derived.Deep.CutRange
import Derived.Deep.DeepCutAuto
import Derived.Deep.QuietTactic
import Derived.Deep.RegionHeld3
import Derived.Deep.RegionLaw
import Derived.Deep.RegionWith
section
namespace Go.Proofs.YtcjoinhngdfdmaaGreatDoor
open Go.RowKit
set_option linter.unusedVariables false
set_option maxHeartbeats 1000000

theorem wideEv : Wide Tryz.prog 45 5 := ⟨⟨_, Tryz.underlying45, by rfl⟩, by kernel_rfl⟩
theorem loadEv (x : Value) : Instr.loadAt 45 x = loadS 45 5 x := rfl
theorem storeEv (x y : Value) : Instr.storeAt 45 x y = storeS 45 5 x y := rfl
theorem wideRg : Wide Tryz.prog 47 8 := ⟨⟨_, Tryz.underlying47, by rfl⟩, by kernel_rfl⟩
theorem loadRg (x : Value) : Instr.loadAt 47 x = loadS 47 8 x := rfl
theorem storeRg (x y : Value) : Instr.storeAt 47 x y = storeS 47 8 x y := rfl
set_option maxRecDepth 100000
attribute [local go_sem ↓] append_appS copy_copS clear_clrS make_mkS cell_row frozen_row heap_drew heap_drewN heap_alloc heap_past heap_setCell heap_putRow loadSe storeSe loadIns storeIns loadEv storeEv loadRg storeRg sec_kd sec_li sec_wo sec_va sec_sn insc_op insc_a insc_b insc_c insc_im evc_kd evc_co evc_li evc_wo evc_va coc_id coc_ru coc_reg coc_pr coc_pc coc_qb coc_wt
attribute [local go_sem] rowCell_some rowFrozen_some rowHas_some rowIn_some rowPart_full rowPart_lit rowPut_full rowPut_lit rowSet_some size_putRow run_loadS run_storeS run_appS run_copS run_clrS run_mkS loadW_at storeW_at fit_all fit_le one_int one_bool one_pointer one_slice allOne_list putRow_new ne_size1 ne_size2 ne_size3 ne_size4 wideSe wideIns wideEv wideRg sec_size sec_one sec_lit sec_z sec_ne sec_set0 sec_set1 sec_set2 sec_set3 sec_set4 seZ_kd seZ_li seZ_wo seZ_va seZ_sn fold_sec insc_size insc_one insc_ne insc_lit insc_z fold_insc evc_size evc_one evc_ne evc_lit evc_z evc_set0 evc_set1 evc_set2 evc_set3 evc_set4 evZ_kd evZ_co evZ_li evZ_wo evZ_va fold_evc coc_setRu coc_size coc_one coc_setPc coc_setWt coc_setReg coc_regs coc_regsIn vs_size vs_one
attribute [local simp ↓] heap_drew heap_drewN heap_alloc heap_past heap_setCell heap_putRow
attribute [local simp] rowCell_some rowFrozen_some rowHas_some rowIn_some rowPart_full rowPart_lit rowPut_full rowPut_lit rowSet_some size_putRow fit_all putRow_new ne_size1 ne_size2 ne_size3 ne_size4 sec_size insc_size evc_size coc_size coc_setRu coc_setPc coc_setWt coc_setReg vs_size fit_le
/-- A core's own block. -/
def CoAt (w : World) (kb : Nat) (id : Int) (ru : Bool) (rg : List Int) (pb np : Nat) (pc : Int) (qb : Nat) (wt : Int) : Prop := w.heap[kb]? = some (.cells (coc id ru rg pb np pc qb wt) 98 (0, 0))
theorem results_ev {fn : Func} {p : Tmp} (h : fn.results = #[.cell p 45]) (tmps : Array Value) (w : World) (q : Nat) (x : Ev) (fr : Nat × Nat)
    (hp : tmps.getD p undef = .pointer (some ⟨q, 0, none⟩)) (hb : w.heap[q]? = some (.cells (evc x) 45 fr)) : (results fn tmps).run Tryz.prog w = .ok (.agg (evc x)) w := by
  have hp' : tmps[p]?.getD undef = .pointer (some ⟨q, 0, none⟩) := by simpa using hp
  have := run_loadVar_row (P := Tryz.prog) w q 45 45 (evc x) fr _ hb Tryz.underlying45 rfl (by rw [evc_size]; kernel_rfl)
  simp [results, h, hp', asAddr, this]
theorem results_rg {rg : List Int} (h8 : rg.length = 8) {fn : Func} {p : Tmp} (h : fn.results = #[.cell p 47]) (tmps : Array Value) (w : World) (q : Nat) (fr : Nat × Nat)
    (hp : tmps.getD p undef = .pointer (some ⟨q, 0, none⟩)) (hq : w.heap[q]? = some (.cells (vs rg) 47 fr)) : (results fn tmps).run Tryz.prog w = .ok (.agg (vs rg)) w := by
  have hp' : tmps[p]?.getD undef = .pointer (some ⟨q, 0, none⟩) := by simpa using hp
  have := run_loadVar_row (P := Tryz.prog) w q 47 47 (vs rg) fr _ hq Tryz.underlying47 rfl (by rw [vs_size, h8]; kernel_rfl)
  simp [results, h, hp', asAddr, this]
section
variable {w : World} {kb : Nat} {id : Int} {ru : Bool} {rg : List Int} {pb np : Nat} {pc : Int} {qb : Nat} {wt : Int} (h8 : rg.length = 8) (hb : w.heap[kb]? = some (.cells (coc id ru rg pb np pc qb wt) 98 (0, 0)))
include hb
theorem cevent (kd li wo va : Int) : Calls Tryz.prog 46 #[.pointer (some ⟨kb, 0, none⟩), .int .i64 kd, .int .i64 li, .int .i64 wo, .int .u64 va] w fun e w' => e = .returned (.agg (evc ⟨kd, id, li, wo, va⟩)) ∧ Chg [] w w' := by
  have ob := old hb
  go_enter Tryz.func46, Tryz.ntmps46
  go_wp2_with fail
  refine bodyPost_ret (v := .agg (evc ⟨kd, id, li, wo, va⟩)) (results_ev (by rfl) _ _ w.heap.size _ (0, 0) (by rfl) (by simp; try rfl)) (by rfl) ⟨rfl, (Chg.refl [] w).alloc _⟩
theorem cruns : Calls Tryz.prog 15 #[.pointer (some ⟨kb, 0, none⟩)] w fun e w' => e = .returned (.bool ru) ∧ w = w' := by
  go_enter Tryz.func15, Tryz.ntmps15
  go_wp2_with fail
  go_ret
  exact ⟨rfl, rfl⟩
include h8
theorem cnext (v : Value) (h1 : -9223372036854775808 ≤ pc + 1) (h2 : pc + 1 ≤ 9223372036854775807) : Calls Tryz.prog 45 #[.pointer (some ⟨kb, 0, none⟩), v] w fun e w' => e = .returned v ∧ Chg [kb] w w' ∧ CoAt w' kb id ru rg pb np (pc + 1) qb wt := by
  have ob := old hb
  go_enter Tryz.func45, Tryz.ntmps45
  go_wp2_with fail
  go_ret
  refine ⟨rfl, (Chg.refl [kb] w).setCell kb _ _ (.inl (by simp)), ?_⟩
  unfold CoAt
  rw [heap_setCell, if_pos rfl, hb, rowSet_some, coc_setPc h8]
theorem cend (kd : Int) : Calls Tryz.prog 42 #[.pointer (some ⟨kb, 0, none⟩), .int .i64 kd] w fun e w' => ∃ be, e = .returned (.slice (some ⟨be, 0, none⟩) 1 1) ∧ Chg [kb] w w' ∧ CoAt w' kb id false rg pb np pc qb wt ∧ w'.heap[be]? = some (.cells (evc ⟨kd, id, 0, 0, 0⟩) 45 (0, 0)) ∧ w.heap.size ≤ be := by
  have _ := h8
  have ob := old hb
  have hb1 : (w.setCell ⟨kb, 1, none⟩ (.bool false)).heap[kb]? = some (.cells (coc id false rg pb np pc qb wt) 98 (0, 0)) := by
    rw [heap_setCell, if_pos rfl, hb, rowSet_some, coc_setRu]
  have hs : (w.setCell ⟨kb, 1, none⟩ (.bool false)).heap.size = w.heap.size := by simp
  have HC := Lib.hid ((Chg.refl [kb] w).setCell kb 1 (.bool false) (.inl (by simp)))
  go_enter Tryz.func42, Tryz.ntmps42
  go_wp2_with fail
  generalize hw : w.setCell ⟨kb, 1, none⟩ (.bool false) = w1 at hb1 hs HC ⊢
  refine (cevent hb1 kd 0 0 0).mono ?_
  rintro e w2 ⟨rfl, c2⟩
  have hb2 := c2.keep hb1 (by simp)
  have HC2 := Lib.hid (HC.out.trans (c2.mono (by simp)))
  have ob2 := old hb2
  clear hw hb1 HC
  go_wp2_with fail
  go_ret
  refine ⟨w2.heap.size, rfl, HC2.out.alloc _, ?_, by simp, ?_⟩
  · unfold CoAt
    rw [heap_alloc, hb2]; rfl
  · have := c2.size
    omega
theorem cregs : Calls Tryz.prog 26 #[.pointer (some ⟨kb, 0, none⟩)] w fun e w' => e = .returned (.agg (vs rg)) ∧ Chg [] w w' := by
  have ob := old hb
  go_enter Tryz.func26, Tryz.ntmps26
  go_wp2_with fail
  refine bodyPost_ret (v := .agg (vs rg)) ?_ (by rfl) ?_
  · exact results_rg h8 (by rfl) _ _ w.heap.size (0, 0) (by rfl) (by simp)
  · exact ⟨rfl, (Chg.refl [] w).alloc _⟩
end
/-! ### Of nobody -/
theorem cstop_nil (w : World) : Calls Tryz.prog 25 #[.pointer none] w fun e w' => e = .returned (.tuple #[]) ∧ w = w' := by
  go_enter Tryz.func25, Tryz.ntmps25
  go_wp2_with fail
  go_end0
  exact ⟨rfl, rfl⟩
theorem cruns_nil (w : World) : Calls Tryz.prog 15 #[.pointer none] w fun e w' => e = .returned (.bool false) ∧ w = w' := by
  go_enter Tryz.func15, Tryz.ntmps15
  go_wp2_with fail
  go_ret
  exact ⟨rfl, rfl⟩
theorem cplace_nil (w : World) : Calls Tryz.prog 27 #[.pointer none] w fun e w' => e = .returned (.int .i64 0) ∧ w = w' := by
  go_enter Tryz.func27, Tryz.ntmps27
  go_wp2_with fail
  go_ret
  exact ⟨rfl, rfl⟩
theorem cwaits_nil (w : World) : Calls Tryz.prog 22 #[.pointer none] w fun e w' => e = .returned (.int .i64 0) ∧ w = w' := by
  go_enter Tryz.func22, Tryz.ntmps22
  go_wp2_with fail
  go_ret
  exact ⟨rfl, rfl⟩
theorem cbuffer_nil (w : World) : Calls Tryz.prog 16 #[.pointer none] w fun e w' => e = .returned (.slice none 0 0) ∧ w = w' := by
  go_enter Tryz.func16, Tryz.ntmps16
  go_wp2_with fail
  go_ret
  exact ⟨rfl, rfl⟩
theorem cexec_nil (w : World) (s : Option Addr) : Calls Tryz.prog 17 #[.pointer none, .pointer s] w fun e w' => e = .returned (.slice none 0 0) ∧ w = w' := by
  go_enter Tryz.func17, Tryz.ntmps17
  try dsimp only [List.append]
  go_wp2_with (go_at_call 15; refine (cruns_nil _).mono ?_; rintro e w' ⟨rfl, rfl⟩)
  go_ret
  exact ⟨rfl, rfl⟩
theorem cdrain_nil (w : World) (s : Option Addr) : Calls Tryz.prog 18 #[.pointer none, .pointer s] w fun e w' => e = .returned (.slice none 0 0) ∧ w = w' := by
  go_enter Tryz.func18, Tryz.ntmps18
  try dsimp only [List.append]
  go_wp2_with fail
  go_ret
  exact ⟨rfl, rfl⟩
theorem cregs_nil (w : World) : Calls Tryz.prog 26 #[.pointer none] w fun e w' => e = .returned (.agg (vs [0, 0, 0, 0, 0, 0, 0, 0])) ∧ Chg [] w w' := by
  go_enter Tryz.func26, Tryz.ntmps26
  go_wp2_with fail
  refine bodyPost_ret (v := .agg (vs [0, 0, 0, 0, 0, 0, 0, 0])) (results_rg rfl (by rfl) _ _ w.heap.size (0, 0) (by rfl) (by simp [vs])) (by rfl) ⟨rfl, (Chg.refl [] w).alloc _⟩
section
variable {w : World} {kb : Nat} {id : Int} {ru : Bool} {rg : List Int} {pb np : Nat} {pc : Int} {qb : Nat} {wt : Int} (hb : w.heap[kb]? = some (.cells (coc id ru rg pb np pc qb wt) 98 (0, 0)))
include hb
theorem cexec_nos : Calls Tryz.prog 17 #[.pointer (some ⟨kb, 0, none⟩), .pointer none] w fun e w' => e = .returned (.slice none 0 0) ∧ w = w' := by
  have HB := Lib.hid hb
  clear hb
  cases ru
  all_goals
    go_enter Tryz.func17, Tryz.ntmps17
    try dsimp only [List.append]
    go_wp2_with (go_at_call 15; refine (cruns HB.out).mono ?_; rintro e w' ⟨rfl, rfl⟩)
    go_ret
    exact ⟨rfl, rfl⟩
theorem cdrain_nos : Calls Tryz.prog 18 #[.pointer (some ⟨kb, 0, none⟩), .pointer none] w fun e w' => e = .returned (.slice none 0 0) ∧ w = w' := by
  have _ := hb
  go_enter Tryz.func18, Tryz.ntmps18
  try dsimp only [List.append]
  go_wp2_with fail
  go_ret
  exact ⟨rfl, rfl⟩
end
end Go.Proofs.YtcjoinhngdfdmaaGreatDoor
end
section
namespace Go.Proofs.YtcjoinhngdfdmaaGreatDoor
open Go.RowKit
set_option linter.unusedVariables false
set_option maxHeartbeats 1000000
set_option maxRecDepth 100000
attribute [local go_sem ↓] append_appS copy_copS clear_clrS make_mkS cell_row frozen_row loadLine storeLine loadSlot storeSlot heap_drew heap_drewN heap_alloc heap_past heap_setCell heap_putRow vs_get slc_st slc_li slc_us slice_slS loadMsg storeMsg loadHas storeHas msc_kd msc_li msc_di msc_ke
attribute [local go_sem] rowCell_some rowFrozen_some rowHas_some rowIn_some rowPart_full rowPart_lit rowPut_full rowPut_lit rowSet_some size_putRow vs_size vs_one wideLine wideSlot run_loadS run_storeS run_appS run_copS run_clrS run_mkS loadW_at storeW_at fit_all fit_le one_int one_bool one_pointer one_slice allOne_list putRow_new ne_size1 ne_size2 ne_size3 ne_size4 zero8_length lines_nil line_eq lit8 slc_size slc_one slc_part slc_in fold_slt fold_slc slc_set_us wideMsg wideHas run_slS msc_size msc_one msc_part msc_in fold_msc msc_putDi msc_putKe msc_putX msc_has ms4_lit
attribute [local simp ↓] heap_drew heap_drewN heap_alloc heap_past heap_setCell heap_putRow
attribute [local simp] rowCell_some rowFrozen_some rowHas_some rowIn_some rowPart_full rowPart_lit rowPut_full rowPut_lit rowSet_some size_putRow vs_size fit_all putRow_new ne_size1 ne_size2 ne_size3 ne_size4 zero8_length slc_size msc_size msc_putDi msc_putKe msc_putX msc_has fit_le
attribute [local go_sem ↓] ec_he ec_di ec_ow ec_sh ec_bu ec_by ec_wa sc_to
attribute [local go_sem] mi_and mi_or mi_not mi_beq0 mi_bne0 ec_size ec_one ec_part ec_in ec_has ec_setDi ec_setOw ec_setSh ec_setBu ec_setBy ec_setWa ec_setSh0 ec_setWa0 ec_putM sc_size sc_one sc_part sc_in
attribute [local simp] ec_size sc_size ec_setDi ec_setOw ec_setSh ec_setBu ec_setBy ec_setWa ec_setSh0 ec_setWa0 ec_putM
attribute [local go_sem ↓] loadEn storeEn loadSd storeSd en_z0
attribute [local go_sem] wideEn wideSd fold_sc size11 putRow_newB putRow_newC ms5_lit
attribute [local simp] en_z0 putRow_newB putRow_newC fit_le ec_has



attribute [local go_sem ↓] mlitZ zenc_po zenc_en zenc_q
attribute [local simp] mlitZ

attribute [local go_sem ↓] mstc_0 mstc_1 mstc_2 mstc_3 mstc_4
attribute [local go_sem] mstc_size mstc_one mstc_part
theorem MTS.wrap {W w w1 w5 w6 : World} {c : Cg} {sy : Nat} {F : List Nat} {S : Mst} (hW : W.heap.size ≤ w.heap.size) (hF : ∀ k ∈ F, k < w.heap.size) (hc : Chg [] w w1) (h : MTS W w1 c sy F S w5) (l : List Nat) (hl : ∀ b ∈ l, w.heap.size ≤ b ∧ (b < w1.heap.size ∨ w5.heap.size ≤ b)) (hc2 : Chg l w5 w6) : MTS W w c sy F S w6 := by
  obtain ⟨F', hm, hch, hk⟩ := h
  have ho := hm.old
  refine ⟨F', hm.keepL hc2 (fun b hb hbF => ?_) (fun b hb => Nat.le_trans hW (hl b hb).1), ?_, fun k hkF => ?_⟩
  · rcases (hl b hb).2 with h1 | h1
    · rcases hk b hbF with h2 | h2
      · have := hF b h2; have := (hl b hb).1; omega
      · omega
    · have := ho b hbF; omega
  · exact ((hc.mono (l' := F) (by simp)).trans' hch (fun k hk => .inl hk)).trans' hc2 (fun k hk => .inr (hl k hk).1)
  · rcases hk k hkF with h2 | h2
    · exact .inl h2
    · exact .inr (Nat.le_trans hc.size h2)
section
variable (c : Cg) (S : Mst) (k li wd v kd : Int)
end
end Go.Proofs.YtcjoinhngdfdmaaGreatDoor
end
section
namespace Go.Proofs.YtcjoinhngdfdmaaGreatDoor
open Go.RowKit
set_option linter.unusedVariables false
set_option maxHeartbeats 1000000

/-! ### Hits -/
section
variable {c : Cg} {n : Nat} {S : Mst} {cur : Nat → List Int} (h : Inv c n S cur)
include h
/-- Who may read a line has its words. -/
theorem Inv.reads {j : Nat} (hj : j < c.co) {li : Int} (hs : (vw (atP S.ps j).s li).1 = 1 ∨ (vw (atP S.ps j).s li).1 = 2 ∨ (vw (atP S.ps j).s li).1 = 3 ∨ (vw (atP S.ps j).s li).1 = 6) :
    ∃ (i : Nat) (e : En), li = (i : Int) ∧ i < c.li ∧ S.en[i]? = some e ∧ (vw (atP S.ps j).s li).2 = cur i ∧ (e.ow = (j : Int) ∨ hasM e.sh j = true) ∧ (((vw (atP S.ps j).s li).1 = 2 ∨ (vw (atP S.ps j).s li).1 = 3) → e.ow = (j : Int)) ∧ ∀ p : Nat, e.ow = (p : Int) → e.sh = 0#8 := by
  have hp := h.pt j hj
  obtain ⟨l0, l1, _, _⟩ := hp.aj.line (li := li) (by omega)
  obtain ⟨i, rfl⟩ : ∃ i : Nat, li = (i : Int) := ⟨li.toNat, by omega⟩
  obtain ⟨e, he, hl⟩ := h.entry (i := i) (by omega)
  have hr := hl.rel j hj
  have hst : vst (atP S.ps j) i = 1 ∨ vst (atP S.ps j) i = 2 ∨ vst (atP S.ps j) i = 3 ∨ vst (atP S.ps j) i = 6 := by unfold vst; omega
  obtain ⟨a, b, d⟩ := hr.reads hst
  refine ⟨i, e, rfl, by omega, he, a, ?_, fun h2 => ?_, fun p hp => (LI.ow_ne hl hp).2.1⟩
  · rcases b with b | b
    · exact .inl (by simpa using b)
    · exact .inr b
  · have := d (by unfold vst; omega)
    simpa using this
theorem Inv.loadHit (k li wd : Int) (hh : (Go.Proofs.YtcjoinhngdfdmaaGreatDoor.loadM c S k li wd).2.hit = true) : inB k c.co = true ∧ inB li c.li = true ∧ isWd wd = true ∧ (Go.Proofs.YtcjoinhngdfdmaaGreatDoor.loadM c S k li wd).2.v = (cur li.toNat).getD wd.toNat 0 := by
  unfold Go.Proofs.YtcjoinhngdfdmaaGreatDoor.loadM at hh ⊢
  cases hp : portAt c S k with
  | none => rw [hp] at hh; exact absurd (show false = true from hh) (by decide)
  | some x =>
    rw [hp] at hh
    obtain ⟨j, rfl, hj, hx, hat, hP, hb⟩ := h.port hp
    dsimp only at hh ⊢
    by_cases hl : inB li c.li = true
    · rw [if_pos hl] at hh ⊢
      obtain ⟨_, _, hv⟩ := hP.aj.loadF (inB_iff.1 hl).2 wd
      obtain ⟨m1, m2, m3, m4⟩ := hv hh
      have hst : (vw (atP S.ps j).s li).1 = 1 ∨ (vw (atP S.ps j).s li).1 = 2 ∨ (vw (atP S.ps j).s li).1 = 3 ∨ (vw (atP S.ps j).s li).1 = 6 := by
        rw [hat]
        unfold mayR at m1
        rw [Bool.or_eq_true, rest_iff, beq_iff_eq] at m1
        omega
      obtain ⟨i, e, rfl, _, _, q, _⟩ := h.reads hj hst
      rw [hat] at q
      refine ⟨hb, hl, m2, ?_⟩
      rw [Int.toNat_natCast, ← q]
      exact m4
    · rw [if_neg hl] at hh
      exact absurd (show false = true from hh) (by decide)
end
/-! ### One word of one line -/
end Go.Proofs.YtcjoinhngdfdmaaGreatDoor
end
section
namespace Go.Proofs.YtcjoinhngdfdmaaGreatDoor
open Go.RowKit
set_option linter.unusedVariables false
set_option maxHeartbeats 1000000

/-- All words are words. -/
def NN (cur : Nat → List Int) : Prop := ∀ i, ∀ x ∈ cur i, 0 ≤ x
structure PosC (Q : Co) : Prop where
  rg : ∀ x ∈ Q.rg, 0 ≤ x
  es : ∀ e ∈ Q.es, 0 ≤ e.va
theorem u64_pos (x : Int) : 0 ≤ IntKind.u64.wrap x := by
  have : IntKind.u64.wrap x = x % 18446744073709551616 := by simp [IntKind.wrap, IntKind.bits, IntKind.signed]
  omega
theorem getD_pos {l : List Int} (h : ∀ x ∈ l, 0 ≤ x) (i : Nat) : 0 ≤ l.getD i 0 := by
  rw [List.getD_eq_getElem?_getD]
  cases e : l[i]? with
  | none => simp
  | some x => exact h x (List.mem_of_getElem? e)
theorem PosC.reg {Q : Co} (h : PosC Q) (r : Int) : 0 ≤ regA Q r := getD_pos h.rg _
theorem PosC.setR {Q : Co} (h : PosC Q) (r : Int) {v : Int} (hv : 0 ≤ v) : PosC (setR Q r v) := by
  refine ⟨fun x hx => ?_, h.es⟩
  rcases List.mem_or_eq_of_mem_set hx with h1 | rfl
  · exact h.rg x h1
  · exact hv
theorem PosC.next {Q : Co} (h : PosC Q) : PosC (nextC Q) := ⟨h.rg, h.es⟩
theorem PosC.stop {Q : Co} (h : PosC Q) : PosC (stopC Q) := ⟨h.rg, h.es⟩
theorem PosC.read {Q : Co} (h : PosC Q) (u : Int) : PosC (readC Q u) := ⟨h.rg, h.es⟩
theorem fdO_mem {es : List Se} {li wo : Int} {e : Se} (h : fdO es li wo = some e) : e ∈ es := by
  unfold fdO at h
  have := List.mem_of_find?_eq_some h
  simpa using this
theorem loadF_miss {N M : Nat} {s : Sta} {li k : Int} (h : (loadF N M s li k).2.2.1 = false) : 0 ≤ (loadF N M s li k).2.1 := by
  unfold loadF at h ⊢
  split
  · rename_i h1
    rw [if_pos h1] at h
    split
    · rename_i h2
      rw [if_pos h2] at h
      cases h
    · split <;> exact Int.le_refl _
  · exact Int.le_refl _
section
variable {c : Cg} {n : Nat} {S : Mst} {cur : Nat → List Int} (h : Inv c n S cur) (hN : NN cur)
include h hN
theorem NN.load {k li wd : Int} (hh : (loadM c S k li wd).2.hit = true) : 0 ≤ (loadM c S k li wd).2.v := by
  rw [(h.loadHit k li wd hh).2.2.2]
  exact getD_pos (hN _) _
theorem loadV_pos (k li wo : Int) : 0 ≤ (loadM c S k li wo).2.v := by
  cases hh : (loadM c S k li wo).2.hit
  · unfold loadM at hh ⊢
    cases hp : portAt c S k with
    | none => exact Int.le_refl _
    | some x =>
      rw [hp] at hh
      dsimp only at hh ⊢
      split
      · rename_i h1
        rw [if_pos h1] at hh
        exact loadF_miss hh
      · exact Int.le_refl _
  · exact NN.load h hN hh
variable {Q : Co} (hQ : PosC Q)
include hQ
theorem reach_hit {k li : Int} (hh : (reachM c S k li).2.hit = true) : (reachM c S k li).1 = S := by
  have _ := h
  have _ := hN
  have _ := hQ
  unfold reachM at hh ⊢
  cases hp : portAt c S k with
  | none => rfl
  | some x =>
    rw [hp] at hh
    dsimp only at hh ⊢
    split
    · split
      · rfl
      · rename_i h1 h2
        rw [if_pos h1, if_neg h2] at hh
        cases hh
    · rfl
end
end Go.Proofs.YtcjoinhngdfdmaaGreatDoor
end
section
namespace Go.Proofs.YtcjoinhngdfdmaaGreatDoor
open Go.RowKit
set_option linter.unusedVariables false
set_option maxHeartbeats 1000000

set_option maxRecDepth 100000
attribute [local go_sem ↓] append_appS copy_copS clear_clrS make_mkS cell_row frozen_row heap_drew heap_drewN heap_alloc heap_past heap_setCell heap_putRow loadSe storeSe loadIns storeIns loadEv storeEv loadRg storeRg sec_kd sec_li sec_wo sec_va sec_sn insc_op insc_a insc_b insc_c insc_im evc_kd evc_co evc_li evc_wo evc_va coc_id coc_ru coc_reg coc_pr coc_pc coc_qb coc_wt
attribute [local go_sem] rowCell_some rowFrozen_some rowHas_some rowIn_some rowPart_full rowPart_lit rowPut_full rowPut_lit rowSet_some size_putRow run_loadS run_storeS run_appS run_copS run_clrS run_mkS loadW_at storeW_at fit_all fit_le one_int one_bool one_pointer one_slice allOne_list putRow_new ne_size1 ne_size2 ne_size3 ne_size4 wideSe wideIns wideEv wideRg sec_size sec_one sec_lit sec_z sec_ne sec_set0 sec_set1 sec_set2 sec_set3 sec_set4 seZ_kd seZ_li seZ_wo seZ_va seZ_sn fold_sec insc_size insc_one insc_ne insc_lit insc_z fold_insc evc_size evc_one evc_ne evc_lit evc_z evc_set0 evc_set1 evc_set2 evc_set3 evc_set4 evZ_kd evZ_co evZ_li evZ_wo evZ_va fold_evc coc_setRu coc_size coc_one coc_setPc coc_setWt coc_setReg coc_regs coc_regsIn vs_size vs_one
attribute [local simp ↓] heap_drew heap_drewN heap_alloc heap_past heap_setCell heap_putRow
attribute [local simp] rowCell_some rowFrozen_some rowHas_some rowIn_some rowPart_full rowPart_lit rowPut_full rowPut_lit rowSet_some size_putRow fit_all putRow_new ne_size1 ne_size2 ne_size3 ne_size4 sec_size insc_size evc_size coc_size coc_setRu coc_setPc coc_setWt coc_setReg vs_size fit_le
attribute [local go_sem ↓] heap_drewN
/-- What holds of a core that was made. -/
structure CoOk (Q : Co) : Prop where
  h8 : Q.rg.length = 8
  pc : Q.pc ≤ 2147483648
  np : Q.pr.length ≤ 4096
  pr : ∀ x ∈ Q.pr, 0 ≤ x.1 ∧ x.1 < 18446744073709551616
  wt : Q.wt ≤ 16
  id : 0 ≤ Q.id ∧ Q.id < 8
  pos : PosC Q
/-- A core in memory: its own block, its program's, its store buffer's. -/
structure Cor (w : World) (kb pb qb : Nat) (Q : Co) : Prop where
  own : w.heap[kb]? = some (.cells (coc Q.id Q.ru Q.rg pb Q.pr.length Q.pc qb Q.wt) 98 (0, 0))
  steps : Sts w pb (Q.pr.map stp)
  buf : Buf w qb Q.rm Q.es
  kp : kb ≠ pb
  kq : kb ≠ qb
  pq : pb ≠ qb
  ok : CoOk Q
theorem Cor.keep {w w' : World} {kb pb qb : Nat} {Q : Co} {l : List Nat} (h : Cor w kb pb qb Q) (hc : Chg l w w') (h1 : kb ∉ l) (h2 : pb ∉ l) (h3 : qb ∉ l) : Cor w' kb pb qb Q :=
  ⟨hc.keep h.own h1, h.steps.keep hc h2, h.buf.keep hc h3, h.kp, h.kq, h.pq, h.ok⟩
theorem Cor.keep0 {w w' : World} {kb pb qb : Nat} {Q : Co} (h : Cor w kb pb qb Q) (hc : Chg [] w w') : Cor w' kb pb qb Q := h.keep hc (by simp) (by simp) (by simp)
theorem Cor.oldk {w : World} {kb pb qb : Nat} {Q : Co} (h : Cor w kb pb qb Q) : Old w kb := old h.own
theorem Cor.oldp {w : World} {kb pb qb : Nat} {Q : Co} (h : Cor w kb pb qb Q) : Old w pb := old h.steps
theorem Cor.oldq {w : World} {kb pb qb : Nat} {Q : Co} (h : Cor w kb pb qb Q) : Old w qb := h.buf.oldq
/-- The events that a call tells. -/
def EvV (w : World) (B kb : Nat) (F : List Nat) (v : Value) (l : List Ev) : Prop := ∃ A cap be, v = .slice A l.length cap ∧ Vec 5 45 Ev.enc w kb be A cap l ∧ (be = kb ∨ B ≤ be) ∧ (be = kb ∨ be ∉ F)
theorem EvV.nil (w : World) (B kb : Nat) (F : List Nat) : EvV w B kb F (.slice none 0 0) [] := ⟨none, 0, kb, rfl, Vec.nil .., .inl rfl, .inl rfl⟩
theorem EvV.one {w : World} {B kb be : Nat} {F : List Nat} {x : Ev} (h : w.heap[be]? = some (.cells (evc x) 45 (0, 0))) (hk : be ≠ kb) (hB : B ≤ be) (hF : be ∉ F) : EvV w B kb F (.slice (some ⟨be, 0, none⟩) 1 1) [x] :=
  ⟨_, 1, be, rfl, .inr ⟨hk, rfl, by simp, [], by rw [sq_one_ev]; exact h, by simp⟩, .inr hB, .inr hF⟩
theorem EvV.keep {w w' : World} {B kb : Nat} {F : List Nat} {v : Value} {l : List Ev} {m : List Nat} (h : EvV w B kb F v l) (hc : Chg m w w') (hm : ∀ be, B ≤ be → be ≠ kb → be ∉ F → be ∉ m) : EvV w' B kb F v l := by
  obtain ⟨A, cap, be, h1, h2, h3, h4⟩ := h
  refine ⟨A, cap, be, h1, ?_, h3, h4⟩
  rcases h2 with ⟨e1, e2, e3, e4⟩ | ⟨e1, e2, e3, r, e4, e5⟩
  · exact .inl ⟨e1, e2, e3, e4⟩
  · refine .inr ⟨e1, e2, e3, r, hc.keep e4 (hm be ?_ e1 ?_), e5⟩
    · exact h3.resolve_left e1
    · exact h4.resolve_left e1
/-- What a call does to a core alone. -/
def CoTo (w : World) (kb pb qb : Nat) (F : List Nat) (Q' : Co) (l : List Ev) (e : Ending) (w' : World) : Prop := ∃ v, e = .returned v ∧ EvV w' w.heap.size kb F v l ∧ Cor w' kb pb qb Q' ∧ Chg [kb, pb, qb] w w'
theorem wrap_i64_im {x : Int} (h : 0 ≤ x ∧ x ≤ 2147483647) : wrap64 x = x := by
  have : wrap64 x = (x + 9223372036854775808) % 18446744073709551616 - 9223372036854775808 := by simp [wrap64]
  omega
theorem evv_mono {w : World} {B B' kb : Nat} {F : List Nat} {v : Value} {l : List Ev} (h : EvV w B kb F v l) (hB : B' ≤ B) : EvV w B' kb F v l := by
  obtain ⟨A, cap, be, h1, h2, h3, h4⟩ := h
  exact ⟨A, cap, be, h1, h2, h3.imp id (Nat.le_trans hB), h4⟩
section
variable {w : World} {kb pb qb : Nat} {F : List Nat} {Q : Co} (hC : Cor w kb pb qb Q) (hF : ∀ k ∈ F, k < w.heap.size)
include hC
theorem dsettled : Calls Tryz.prog 81 #[.pointer (some ⟨kb, 0, none⟩)] w fun e w' => e = .returned (.bool (settledB Q)) ∧ w = w' := by
  have h8 := hC.ok.h8
  have hb := hC.own
  have HB := Lib.hid hC.buf
  have he : ((Q.es.length : Int) == 0) = Q.es.isEmpty := by cases Q.es <;> simp; omega
  have hw : ((Q.wt : Int) == 0) = (Q.wt == 0) := by rw [Bool.eq_iff_iff]; simp
  clear hC
  unfold settledB
  generalize Q.es.isEmpty = b1 at he ⊢
  cases b1
  all_goals
    go_enter Tryz.func81, Tryz.ntmps81
    go_wp2_with (go_at_call 76; refine (slen_ok HB.out).mono ?_; rintro e w' ⟨rfl, rfl⟩)
    go_ret
    exact ⟨rfl, rfl⟩
include hF
theorem dend (kd : Int) : Calls Tryz.prog 42 #[.pointer (some ⟨kb, 0, none⟩), .int .i64 kd] w (CoTo w kb pb qb F (stopC Q) [evC Q kd 0 0 0]) := by
  refine (cend hC.ok.h8 hC.own kd).mono ?_
  rintro e w' ⟨be, rfl, hc, hk, hv, hB⟩
  have ok := hC.oldk.lt
  refine ⟨_, rfl, .one hv (by omega) hB (fun h => by have := hF _ h; omega), ?_, hc.mono (by simp)⟩
  exact ⟨hk, hC.steps.keep hc (by simp [hC.kp.symm]), hC.buf.keep hc (by simp [hC.kq.symm]), hC.kp, hC.kq, hC.pq, ⟨hC.ok.h8, hC.ok.pc, hC.ok.np, hC.ok.pr, hC.ok.wt, hC.ok.id, hC.ok.pos.stop⟩⟩
/-- The core goes on to the next place. -/
theorem dnext {v : Value} {l : List Ev} {B : Nat} (hv : EvV w B kb F v l) (hp : Q.pc < 2147483648) : Calls Tryz.prog 45 #[.pointer (some ⟨kb, 0, none⟩), v] w fun e w' => e = .returned v ∧ EvV w' B kb F v l ∧ Cor w' kb pb qb (nextC Q) ∧ Chg [kb] w w' := by
  have _ := hF
  refine (cnext hC.ok.h8 hC.own v (by omega) (by omega)).mono ?_
  rintro e w' ⟨rfl, hc, hk⟩
  refine ⟨rfl, hv.keep hc (fun be _ h _ => by simpa using h), ?_, hc⟩
  exact ⟨hk, hC.steps.keep hc (by simp [hC.kp.symm]), hC.buf.keep hc (by simp [hC.kq.symm]), hC.kp, hC.kq, hC.pq, ⟨hC.ok.h8, by show Q.pc + 1 ≤ _; omega, hC.ok.np, hC.ok.pr, hC.ok.wt, hC.ok.id, hC.ok.pos.next⟩⟩
/-- An event is told, and the core goes on. -/
theorem dnext_ev {w2 : World} (c2 : Chg [] w w2) (x : Ev) (hp : Q.pc < 2147483648) : Calls Tryz.prog 45 #[.pointer (some ⟨kb, 0, none⟩), .slice (some ⟨w2.heap.size, 0, none⟩) 1 1] (w2.alloc (.cells (evc x) 45)) (CoTo w kb pb qb F (nextC Q) [x]) := by
  have c3 : Chg [] w (w2.alloc (.cells (evc x) 45)) := c2.alloc _
  have hs := c2.size
  have hk := hC.oldk.lt
  refine (dnext (hC.keep0 c3) (F := F) (fun k h => by have := hF k h; simp; omega) (v := .slice (some ⟨w2.heap.size, 0, none⟩) 1 1) (l := [x]) (B := w.heap.size) (EvV.one (by simp) (by omega) hs (fun h => by have := hF _ h; omega)) hp).mono ?_
  rintro e w' ⟨rfl, h1, h2, h3⟩
  exact ⟨_, rfl, h1, h2, (c3.mono (by simp)).trans (h3.mono (by simp))⟩
/-- The core goes on, and tells nothing. -/
theorem dnext_nil (hp : Q.pc < 2147483648) : Calls Tryz.prog 45 #[.pointer (some ⟨kb, 0, none⟩), .slice none 0 0] w (CoTo w kb pb qb F (nextC Q) []) := by
  refine (dnext hC hF (EvV.nil w w.heap.size kb F) hp).mono ?_
  rintro e w' ⟨rfl, h1, h2, h3⟩
  exact ⟨_, rfl, h1, h2, h3.mono (by simp)⟩
theorem dfence (hp : Q.pc < 2147483648) : Calls Tryz.prog 47 #[.pointer (some ⟨kb, 0, none⟩)] w (CoTo w kb pb qb F (if settledB Q then nextC Q else Q) (if settledB Q then [evC Q 7 0 0 0] else [])) := by
  have S := dsettled hC
  cases hs : settledB Q
  · rw [hs] at S
    show Calls _ _ _ _ (CoTo w kb pb qb F Q [])
    have HS := Lib.hid S
    have HC := Lib.hid hC
    clear S hC hs hF
    go_enter Tryz.func47, Tryz.ntmps47
    go_wp2_with (go_at_call 81; refine HS.out.mono ?_; rintro e w' ⟨rfl, rfl⟩)
    go_ret
    exact ⟨_, rfl, EvV.nil .., HC.out, Chg.refl _ _⟩
  · rw [hs] at S
    show Calls _ _ _ _ (CoTo w kb pb qb F (nextC Q) [evC Q 7 0 0 0])
    have HS := Lib.hid S
    have HC := Lib.hid hC
    have HF := Lib.hid hF
    have HP := Lib.hid hp
    clear S hC hs hF hp
    go_enter Tryz.func47, Tryz.ntmps47
    go_wp2_with (go_at_call 81; refine HS.out.mono ?_; rintro e w' ⟨rfl, rfl⟩)
    refine (cevent HC.out.own 7 0 0 0).mono ?_
    rintro e w2 ⟨rfl, c2⟩
    have HC2 := Lib.hid c2
    clear c2
    go_wp2_with fail
    refine (dnext_ev HC.out HF.out HC2.out _ HP.out).mono ?_
    rintro e w4 ⟨v, rfl, hv⟩
    go_wp2_with fail
    go_ret
    exact ⟨_, rfl, hv⟩
/-- A jump. -/
theorem djump (i : Ins) (ha : 0 ≤ i.a ∧ i.a < 8) (hb : 0 ≤ i.b ∧ i.b < 8) (hi : 0 ≤ i.im ∧ i.im ≤ 2147483647) (hp : Q.pc < 2147483648) : Calls Tryz.prog 44 #[.pointer (some ⟨kb, 0, none⟩), .agg (insc i)] w (CoTo w kb pb qb F (if goV i.op (regA Q i.a) (regA Q i.b) then { Q with pc := i.im.toNat } else nextC Q) []) := by
  obtain ⟨na, hna⟩ : ∃ n : Nat, i.a = (n : Int) := ⟨i.a.toNat, by omega⟩
  obtain ⟨nb, hnb⟩ : ∃ n : Nat, i.b = (n : Int) := ⟨i.b.toNat, by omega⟩
  have ea : regA Q i.a = regN Q.rg na := by unfold regA; rw [hna, Int.toNat_natCast]
  have eb : regA Q i.b = regN Q.rg nb := by unfold regA; rw [hnb, Int.toNat_natCast]
  have la : na < 8 := by omega
  have lb : nb < 8 := by omega
  have la' : (na : Int) < 8 := by omega
  have lb' : (nb : Int) < 8 := by omega
  have h8 := hC.ok.h8
  have hb0 := hC.own
  have ob := old hb0
  have HC := Lib.hid hC
  have HF := Lib.hid hF
  have HP := Lib.hid hp
  have HI := Lib.hid hi
  have hx : (w.alloc (.cells (insc i) 33)).heap[w.heap.size]? = some (.cells (insc i) 33 (0, 0)) := by simp
  rw [ea, eb]
  have HCH : Chg [] w (w.alloc (.cells (insc i) 33)) := (Chg.refl [] w).alloc _
  have hb1 := HCH.keep hb0 (by simp)
  generalize hw1 : w.alloc (.cells (insc i) 33) = w1 at hx hb1 HCH
  generalize hz : w.heap.size = p at hx
  have R1 : ∀ y : Aft w1.heap.size w1, y.w.heap[p]? = some (.cells (insc i) 33 (0, 0)) := fun y => (y.block (old hx).lt).trans hx
  have R2 : ∀ y : Aft w1.heap.size w1, y.w.heap[kb]? = some (.cells (coc Q.id Q.ru Q.rg pb Q.pr.length Q.pc qb Q.wt) 98 (0, 0)) := fun y => (y.block (old hb1).lt).trans hb1
  have HCH' := Lib.hid HCH
  have ob1 := old hb1
  have ox1 := old hx
  have HG := Lib.hid (fun w => ggo_any i.op (regN Q.rg na) (regN Q.rg nb) w)
  have him := wrap_i64_im HI.out
  have hiN : i.im = ((i.im.toNat : Nat) : Int) := by have := HI.out; omega
  have HIN := Lib.hid hiN
  clear hC hF hp hi ha hb ea eb hiN HCH
  cases hg : goV i.op (regN Q.rg na) (regN Q.rg nb)
  · rw [hg] at HG
    show Calls _ _ _ _ (CoTo w kb pb qb F (nextC Q) [])
    clear hg
    go_enter Tryz.func44, Tryz.ntmps44
    go_wp2_with fail
    refine wp_region_aft w1.heap.size (by kernel_rfl) (by kernel_rfl) ?_
    repeat (go_big_quiet_step (first | (go_at_call 80; exact calls_aftC (Nat.le_refl _) ((HG.out _).mono fun _ _ h => ⟨h.1, h.2 ▸ Chg.mapW _ _⟩))))
    refine wpQuiet_nil ?_
    rintro _ ⟨y, rfl⟩
    have r2 := R2 y
    have hcy := HCH'.out.trans (Below.chg y.below (Nat.le_refl _))
    have HCY := Lib.hid hcy
    clear hcy
    go_wp2_with fail
    refine (dnext_nil (HC.out.keep0 HCY.out) (F := F) (fun k h => by have := HF.out k h; have := HCY.out.size; omega) HP.out).mono ?_
    rintro e w4 ⟨v, rfl, h1, h2, h3⟩
    go_wp2_with fail
    go_ret
    exact ⟨_, rfl, evv_mono h1 HCY.out.size, h2, (HCY.out.mono (by simp)).trans h3⟩
  · rw [hg] at HG
    show Calls _ _ _ _ (CoTo w kb pb qb F { Q with pc := i.im.toNat } [])
    clear hg
    go_enter Tryz.func44, Tryz.ntmps44
    go_wp2_with fail
    refine wp_region_aft w1.heap.size (by kernel_rfl) (by kernel_rfl) ?_
    repeat (go_big_quiet_step (first | (go_at_call 80; exact calls_aftC (Nat.le_refl _) ((HG.out _).mono fun _ _ h => ⟨h.1, h.2 ▸ Chg.mapW _ _⟩))))
    refine wpQuiet_nil ?_
    rintro _ ⟨y, rfl⟩
    have r1 := R1 y
    have r2 := R2 y
    have hcy := HCH'.out.trans (Below.chg y.below (Nat.le_refl _))
    have HCY := Lib.hid hcy
    clear hcy
    go_wp2_with fail
    go_ret
    refine ⟨_, rfl, EvV.nil .., ?_, (HCY.out.mono (by simp)).setCell kb _ _ (.inl (by simp))⟩
    have hc := (Chg.refl [kb] y.w).setCell kb 11 (.int .i64 i.im) (.inl (by simp))
    have h2 := HC.out.keep0 HCY.out
    refine ⟨?_, h2.steps.keep hc (by simp [h2.kp.symm]), h2.buf.keep hc (by simp [h2.kq.symm]), h2.kp, h2.kq, h2.pq, ⟨h2.ok.h8, ?_, h2.ok.np, h2.ok.pr, h2.ok.wt, h2.ok.id, ⟨h2.ok.pos.rg, h2.ok.pos.es⟩⟩⟩
    · rw [heap_setCell, if_pos rfl, r2, rowSet_some, coc_setPc h8]
      show some (Obj.cells (coc Q.id Q.ru Q.rg pb Q.pr.length i.im qb Q.wt) _ _) = some (Obj.cells (coc Q.id Q.ru Q.rg pb Q.pr.length (i.im.toNat : Nat) qb Q.wt) _ _)
      rw [← HIN.out]
    · show i.im.toNat ≤ _
      have := HI.out
      omega
end
end Go.Proofs.YtcjoinhngdfdmaaGreatDoor
end
section
namespace Go.Proofs.YtcjoinhngdfdmaaGreatDoor
open Go.RowKit
set_option linter.unusedVariables false
set_option maxHeartbeats 1000000

set_option maxRecDepth 100000
attribute [local go_sem ↓] append_appS copy_copS clear_clrS make_mkS cell_row frozen_row heap_drew heap_drewN heap_alloc heap_past heap_setCell heap_putRow loadSe storeSe loadIns storeIns loadEv storeEv loadRg storeRg sec_kd sec_li sec_wo sec_va sec_sn insc_op insc_a insc_b insc_c insc_im evc_kd evc_co evc_li evc_wo evc_va coc_id coc_ru coc_reg coc_pr coc_pc coc_qb coc_wt
attribute [local go_sem] rowCell_some rowFrozen_some rowHas_some rowIn_some rowPart_full rowPart_lit rowPut_full rowPut_lit rowSet_some size_putRow run_loadS run_storeS run_appS run_copS run_clrS run_mkS loadW_at storeW_at fit_all fit_le one_int one_bool one_pointer one_slice allOne_list putRow_new ne_size1 ne_size2 ne_size3 ne_size4 wideSe wideIns wideEv wideRg sec_size sec_one sec_lit sec_z sec_ne sec_set0 sec_set1 sec_set2 sec_set3 sec_set4 seZ_kd seZ_li seZ_wo seZ_va seZ_sn fold_sec insc_size insc_one insc_ne insc_lit insc_z fold_insc evc_size evc_one evc_ne evc_lit evc_z evc_set0 evc_set1 evc_set2 evc_set3 evc_set4 evZ_kd evZ_co evZ_li evZ_wo evZ_va fold_evc coc_setRu coc_size coc_one coc_setPc coc_setWt coc_setReg coc_regs coc_regsIn vs_size vs_one
attribute [local simp ↓] heap_drew heap_drewN heap_alloc heap_past heap_setCell heap_putRow
attribute [local simp] rowCell_some rowFrozen_some rowHas_some rowIn_some rowPart_full rowPart_lit rowPut_full rowPut_lit rowSet_some size_putRow fit_all putRow_new ne_size1 ne_size2 ne_size3 ne_size4 sec_size insc_size evc_size coc_size coc_setRu coc_setPc coc_setWt coc_setReg vs_size fit_le
attribute [local go_sem ↓] heap_drewN
theorem sbE_same {room : Nat} {es : List Se} {e : Se} (h : sbV room es e ≠ 0) : sbE room es e = es := by
  unfold sbV at h
  unfold sbE
  split
  · rename_i h1
    rw [if_pos h1] at h
    split
    · rfl
    · rename_i h2
      rw [if_neg h2] at h
      exact absurd rfl h
  · rfl
/-- With other entries. -/
theorem Cor.entries {w w' : World} {kb pb qb : Nat} {Q : Co} {es' : List Se} (h : Cor w kb pb qb Q) (hc : Chg [qb] w w') (hb : Buf w' qb Q.rm es') (hp : ∀ e ∈ es', 0 ≤ e.va) : Cor w' kb pb qb { Q with es := es' } :=
  ⟨hc.keep h.own (by simp [h.kq]), h.steps.keep hc (by simp [h.pq]), hb, h.kp, h.kq, h.pq, ⟨h.ok.h8, h.ok.pc, h.ok.np, h.ok.pr, h.ok.wt, h.ok.id, ⟨h.ok.pos.rg, hp⟩⟩⟩
theorem CoTo.from {w w4 : World} {kb pb qb : Nat} {F : List Nat} {Q' : Co} {l : List Ev} {e : Ending} {w' : World} (hc : Chg [kb, pb, qb] w w4) (h : CoTo w4 kb pb qb F Q' l e w') : CoTo w kb pb qb F Q' l e w' := by
  obtain ⟨v, he, h1, h2, h3⟩ := h
  exact ⟨v, he, evv_mono h1 hc.size, h2, hc.trans h3⟩
section
variable {w : World} {kb pb qb : Nat} {F : List Nat} {Q : Co} (hC : Cor w kb pb qb Q) (hF : ∀ k ∈ F, k < w.heap.size)
include hC hF
theorem dput (kd : Int) (x : Se) (hx0 : 0 ≤ x.va) (hp : Q.pc < 2147483648) : Calls Tryz.prog 86 #[.pointer (some ⟨kb, 0, none⟩), .int .i64 kd, .agg (sec x)] w (CoTo w kb pb qb F (if sbV Q.rm Q.es x = 0 then nextC { Q with es := sbE Q.rm Q.es x } else Q) (if sbV Q.rm Q.es x = 0 then [evC Q kd x.li x.wo x.va] else [])) := by
  have h8 := hC.ok.h8
  have hs : (w.alloc (.cells (sec x) 112)).heap[w.heap.size]? = some (.cells (sec x) 112 (0, 0)) := by simp
  have HCH : Chg [] w (w.alloc (.cells (sec x) 112)) := (Chg.refl [] w).alloc _
  have HC1 := Lib.hid (hC.keep0 HCH)
  have hb1 := HC1.out.own
  have HF := Lib.hid hF
  have HP := Lib.hid hp
  have HX0 := Lib.hid hx0
  have HPE := Lib.hid (show ∀ e ∈ sbE Q.rm Q.es x, 0 ≤ e.va by
    intro e he
    unfold sbE at he
    split at he
    · split at he
      · exact hC.ok.pos.es e he
      · rcases List.mem_append.1 he with h1 | h1
        · exact hC.ok.pos.es e h1
        · simp only [List.mem_singleton] at h1; subst h1; exact hx0
    · exact hC.ok.pos.es e he)
  have HN := Lib.hid (show w.heap.size ≠ kb ∧ w.heap.size ≠ qb from by have h1 := hC.oldk.lt; have h2 := hC.oldq.lt; omega)
  have HKQ := Lib.hid hC.kq
  have HS := Lib.hid (fun h => sbE_same (room := Q.rm) (es := Q.es) (e := x) h)
  have HPU := Lib.hid (fun (w' : World) (h : Chg [] (w.alloc (.cells (sec x) 112)) w') => spush_ok x (HC1.out.buf.keep h (by simp)))
  have HC0 := Lib.hid HCH
  clear hC hF hp hx0 HCH
  generalize hw1 : w.alloc (.cells (sec x) 112) = w1 at *
  generalize hz : w.heap.size = p at *
  generalize sbV Q.rm Q.es x = sv at *
  generalize sbE Q.rm Q.es x = sE at *
  have ok1 := old hb1
  have op1 := old hs
  have n1 : ¬ p = kb := HN.out.1
  have n2 : ¬ kb = p := fun e => HN.out.1 e.symm
  by_cases h0 : sv = 0
  · rw [if_pos h0, if_pos h0]
    subst h0
    go_enter Tryz.func86, Tryz.ntmps86
    go_wp2_with fail
    go_region_held3 (fun w' => w'.heap[kb]? = some (.cells (coc Q.id Q.ru Q.rg pb Q.pr.length Q.pc qb Q.wt) 98 (0, 0)) ∧ w'.heap[p]? = some (.cells (sec x) 112 (0, 0)))
      (first | exact ⟨hb1, hs⟩ | exact ⟨c4.keep hb1 (by simpa using HKQ.out), c4.keep hs (by simpa using HN.out.2)⟩)
      (first
        | (go_at_call 139; refine (HPU.out _ ((Chg.refl [] w1).drew)).mono ?_; rintro e w4 ⟨rfl, c4, b4⟩))
    all_goals
      rename World => w4
      rename _ ∧ _ => hHeld
      have hb4 := hHeld.1
      have hs4 := hHeld.2
      have HC4 := Lib.hid ((HC1.out.keep0 ((Chg.refl [] w1).drew)).entries c4 b4 HPE.out)
      have HG4 := Lib.hid ((HC0.out.mono (l' := [kb, pb, qb]) (by simp)).trans (((Chg.refl [kb, pb, qb] w1).drew).trans (c4.mono (by simp))))
      have HF4 := Lib.hid (show ∀ k ∈ F, k < w4.heap.size from fun k h => by have h1 := HF.out k h; have h2 := HG4.out.size; omega)
      have HZ4 := Lib.hid (show Old w4 p from old hs4)
      clear hHeld c4 b4 hs hb1
      go_wp2_with fail
      refine (cevent hb4 kd x.li x.wo x.va).mono ?_
      rintro e w5 ⟨rfl, c5⟩
      have HC5 := Lib.hid c5
      clear c5
      go_wp2_with fail
      refine (dnext_ev HC4.out HF4.out HC5.out _ HP.out).mono ?_
      rintro e w6 ⟨v, rfl, hv⟩
      go_wp2_with fail
      go_ret
      exact CoTo.from HG4.out ⟨v, rfl, hv⟩
  · rw [if_neg h0, if_neg h0]
    have hsv : (sv != 0) = true := by simpa using h0
    have HES := Lib.hid (HS.out h0)
    clear h0
    go_enter Tryz.func86, Tryz.ntmps86
    go_wp2_with fail
    go_region_held3 (fun w' => w'.heap[kb]? = some (.cells (coc Q.id Q.ru Q.rg pb Q.pr.length Q.pc qb Q.wt) 98 (0, 0)) ∧ w'.heap[p]? = some (.cells (sec x) 112 (0, 0)))
      (first | exact ⟨hb1, hs⟩ | exact ⟨c4.keep hb1 (by simpa using HKQ.out), c4.keep hs (by simpa using HN.out.2)⟩)
      (first
        | (go_at_call 139; refine (HPU.out _ ((Chg.refl [] w1).drew)).mono ?_; rintro e w4 ⟨rfl, c4, b4⟩))
    all_goals
      rename World => w4
      rename _ ∧ _ => hHeld
      have HC4 := Lib.hid ((HC1.out.keep0 ((Chg.refl [] w1).drew)).entries c4 b4 HPE.out)
      have HG4 := Lib.hid ((HC0.out.mono (l' := [kb, pb, qb]) (by simp)).trans (((Chg.refl [kb, pb, qb] w1).drew).trans (c4.mono (by simp))))
      clear hHeld c4 b4 hs hb1
      go_wp2_with fail
      go_ret
      refine ⟨_, rfl, EvV.nil .., ?_, HG4.out⟩
      have := HC4.out
      rw [HES.out] at this
      exact this
end
end Go.Proofs.YtcjoinhngdfdmaaGreatDoor
end
section
namespace Go.Proofs.YtcjoinhngdfdmaaGreatDoor
open Go.RowKit
set_option linter.unusedVariables false
set_option maxHeartbeats 1000000

set_option maxRecDepth 100000
attribute [local go_sem ↓] append_appS copy_copS clear_clrS make_mkS cell_row frozen_row heap_drew heap_drewN heap_alloc heap_past heap_setCell heap_putRow loadSe storeSe loadIns storeIns loadEv storeEv loadRg storeRg sec_kd sec_li sec_wo sec_va sec_sn insc_op insc_a insc_b insc_c insc_im evc_kd evc_co evc_li evc_wo evc_va coc_id coc_ru coc_reg coc_pr coc_pc coc_qb coc_wt
attribute [local go_sem] rowCell_some rowFrozen_some rowHas_some rowIn_some rowPart_full rowPart_lit rowPut_full rowPut_lit rowSet_some size_putRow run_loadS run_storeS run_appS run_copS run_clrS run_mkS loadW_at storeW_at fit_all fit_le one_int one_bool one_pointer one_slice allOne_list putRow_new ne_size1 ne_size2 ne_size3 ne_size4 wideSe wideIns wideEv wideRg sec_size sec_one sec_lit sec_z sec_ne sec_set0 sec_set1 sec_set2 sec_set3 sec_set4 seZ_kd seZ_li seZ_wo seZ_va seZ_sn fold_sec insc_size insc_one insc_ne insc_lit insc_z fold_insc evc_size evc_one evc_ne evc_lit evc_z evc_set0 evc_set1 evc_set2 evc_set3 evc_set4 evZ_kd evZ_co evZ_li evZ_wo evZ_va fold_evc coc_setRu coc_size coc_one coc_setPc coc_setWt coc_setReg coc_regs coc_regsIn vs_size vs_one
attribute [local simp ↓] heap_drew heap_drewN heap_alloc heap_past heap_setCell heap_putRow
attribute [local simp] rowCell_some rowFrozen_some rowHas_some rowIn_some rowPart_full rowPart_lit rowPut_full rowPut_lit rowSet_some size_putRow fit_all putRow_new ne_size1 ne_size2 ne_size3 ne_size4 sec_size insc_size evc_size coc_size coc_setRu coc_setPc coc_setWt coc_setReg vs_size fit_le
attribute [local go_sem ↓] heap_drewN loadMsg storeMsg msc_kd msc_li
attribute [local go_sem] wideMsg msc_size msc_one
theorem chear_nil (m : Ms) (w : World) : Calls Tryz.prog 21 #[.pointer none, .agg (msc m)] w fun e w' => e = .returned (.slice none 0 0) ∧ Chg [] w w' := by
  go_enter Tryz.func21, Tryz.ntmps21
  go_wp2_with (go_at_call 22; refine (cwaits_nil _).mono ?_; rintro e w' ⟨rfl, rfl⟩)
  go_ret
  exact ⟨rfl, (Chg.refl [] w).alloc _⟩
section
variable {w : World} {kb pb qb : Nat} {F : List Nat} {Q : Co} (hC : Cor w kb pb qb Q)
include hC
theorem dchanged (i : Ins) (ha : 0 ≤ i.a ∧ i.a < 8) (hc : 0 ≤ i.c ∧ i.c < 8) (old' : Int) : Calls Tryz.prog 141 #[.pointer (some ⟨kb, 0, none⟩), .agg (insc i), .int .u64 old'] w fun e w' => e = .returned (.tuple #[.int .u64 (chgV Q i old'), .bool (chgB Q i old')]) ∧ Chg [] w w' := by
  obtain ⟨na, hna⟩ : ∃ n : Nat, i.a = (n : Int) := ⟨i.a.toNat, by omega⟩
  obtain ⟨nc, hnc⟩ : ∃ n : Nat, i.c = (n : Int) := ⟨i.c.toNat, by omega⟩
  have ea : regA Q i.a = regN Q.rg na := by unfold regA; rw [hna, Int.toNat_natCast]
  have ec : regA Q i.c = regN Q.rg nc := by unfold regA; rw [hnc, Int.toNat_natCast]
  have la : na < 8 := by omega
  have lc : nc < 8 := by omega
  have la' : (na : Int) < 8 := by omega
  have lc' : (nc : Int) < 8 := by omega
  unfold chgV chgB
  rw [ea, ec]
  have h8 := hC.ok.h8
  have hb := hC.own
  have ob := old hb
  have hx : (w.alloc (.cells (insc i) 33)).heap[w.heap.size]? = some (.cells (insc i) 33 (0, 0)) := by simp
  have HCH : Chg [] w (w.alloc (.cells (insc i) 33)) := (Chg.refl [] w).alloc _
  have hb1 := HCH.keep hb (by simp)
  have HC1 := Lib.hid HCH
  clear hC ha hc ea ec HCH
  generalize hw1 : w.alloc (.cells (insc i) 33) = w1 at hx hb1 HC1
  generalize hz : w.heap.size = p at hx
  have ob1 := old hb1
  have ox1 := old hx
  by_cases h0 : i.op = 10
  · rw [if_pos h0, if_pos h0]
    go_enter Tryz.func141, Tryz.ntmps141
    go_wp2_with fail
    go_quiet (fail)
    go_wp2_with fail
    go_ret2
    exact ⟨rfl, HC1.out.drewN _⟩
  · rw [if_neg h0, if_neg h0]
    have h10 : (i.op == 10) = false := by simpa using h0
    clear h0
    go_enter Tryz.func141, Tryz.ntmps141
    go_wp2_with fail
    go_quiet (fail)
    go_wp2_with fail
    go_ret2
    exact ⟨rfl, HC1.out.drewN _⟩
end
end Go.Proofs.YtcjoinhngdfdmaaGreatDoor
end
section
namespace Go.Proofs.YtcjoinhngdfdmaaGreatDoor
open Go.RowKit
set_option linter.unusedVariables false
set_option maxHeartbeats 1000000

set_option maxRecDepth 100000
attribute [local go_sem ↓] append_appS copy_copS clear_clrS make_mkS cell_row frozen_row heap_drew heap_drewN heap_alloc heap_past heap_setCell heap_putRow loadSe storeSe loadIns storeIns loadEv storeEv loadRg storeRg sec_kd sec_li sec_wo sec_va sec_sn insc_op insc_a insc_b insc_c insc_im evc_kd evc_co evc_li evc_wo evc_va coc_id coc_ru coc_reg coc_pr coc_pc coc_qb coc_wt
attribute [local go_sem] rowCell_some rowFrozen_some rowHas_some rowIn_some rowPart_full rowPart_lit rowPut_full rowPut_lit rowSet_some size_putRow run_loadS run_storeS run_appS run_copS run_clrS run_mkS loadW_at storeW_at fit_all fit_le one_int one_bool one_pointer one_slice allOne_list putRow_new ne_size1 ne_size2 ne_size3 ne_size4 wideSe wideIns wideEv wideRg sec_size sec_one sec_lit sec_z sec_ne sec_set0 sec_set1 sec_set2 sec_set3 sec_set4 seZ_kd seZ_li seZ_wo seZ_va seZ_sn fold_sec insc_size insc_one insc_ne insc_lit insc_z fold_insc evc_size evc_one evc_ne evc_lit evc_z evc_set0 evc_set1 evc_set2 evc_set3 evc_set4 evZ_kd evZ_co evZ_li evZ_wo evZ_va fold_evc coc_setRu coc_size coc_one coc_setPc coc_setWt coc_setReg coc_regs coc_regsIn vs_size vs_one
attribute [local simp ↓] heap_drew heap_drewN heap_alloc heap_past heap_setCell heap_putRow
attribute [local simp] rowCell_some rowFrozen_some rowHas_some rowIn_some rowPart_full rowPart_lit rowPut_full rowPut_lit rowSet_some size_putRow fit_all putRow_new ne_size1 ne_size2 ne_size3 ne_size4 sec_size insc_size evc_size coc_size coc_setRu coc_setPc coc_setWt coc_setReg vs_size fit_le
attribute [local go_sem ↓] heap_drewN
/-- A core beside a system, in memory. -/
structure CS (W w : World) (c : Cg) (sy : Nat) (F : List Nat) (S : Mst) (kb pb qb : Nat) (Q : Co) : Prop where
  ms : MS W w c sy F S
  co : Cor w kb pb qb Q
  nk : kb ∉ F
  np : pb ∉ F
  nq : qb ∉ F
  lk : W.heap.size ≤ kb
  lp : W.heap.size ≤ pb
  lq : W.heap.size ≤ qb
def CSTo (W w : World) (c : Cg) (sy : Nat) (F : List Nat) (kb pb qb : Nat) (S' : Mst) (Q' : Co) (l : List Ev) (e : Ending) (w' : World) : Prop :=
  ∃ v F', e = .returned v ∧ EvV w' w.heap.size kb F' v l ∧ CS W w' c sy F' S' kb pb qb Q' ∧ Chg (kb :: pb :: qb :: F) w w' ∧ ∀ k ∈ F', k ∈ F ∨ w.heap.size ≤ k
section
variable {W w : World} {c : Cg} {sy : Nat} {F : List Nat} {S : Mst} {kb pb qb : Nat} {Q : Co} (h : CS W w c sy F S kb pb qb Q)
include h
theorem CS.old : ∀ k ∈ F, k < w.heap.size := Mem.old h.ms
theorem CS.keep0 {w' : World} (hc : Chg [] w w') : CS W w' c sy F S kb pb qb Q := ⟨Mem.keep h.ms hc, h.co.keep0 hc, h.nk, h.np, h.nq, h.lk, h.lp, h.lq⟩
/-- What changes the core's blocks alone. -/
theorem CS.core {w' : World} {Q' : Co} (hc : Chg [kb, pb, qb] w w') (hC : Cor w' kb pb qb Q') : CS W w' c sy F S kb pb qb Q' :=
  ⟨Mem.keepL h.ms hc (by
    intro k hk
    simp only [List.mem_cons, List.not_mem_nil, or_false] at hk
    rcases hk with rfl | rfl | rfl
    · exact h.nk
    · exact h.np
    · exact h.nq) (by
    intro k hk
    simp only [List.mem_cons, List.not_mem_nil, or_false] at hk
    rcases hk with rfl | rfl | rfl
    · exact h.lk
    · exact h.lp
    · exact h.lq), hC, h.nk, h.np, h.nq, h.lk, h.lp, h.lq⟩
theorem CS.ofCo {Q' : Co} {l : List Ev} {e : Ending} {w' : World} (hd : CoTo w kb pb qb F Q' l e w') : CSTo W w c sy F kb pb qb S Q' l e w' := by
  obtain ⟨v, he, h1, h2, h3⟩ := hd
  exact ⟨v, F, he, h1, h.core h3 h2, h3.mono (by intro x hx; left; simp only [List.mem_cons, List.not_mem_nil, or_false] at hx ⊢; rcases hx with rfl | rfl | rfl <;> simp), fun k hk => .inl hk⟩
/-- A call of the system. -/
theorem CS.step {S' : Mst} {w' : World} (m : MTS W w c sy F S' w') : ∃ F', CS W w' c sy F' S' kb pb qb Q ∧ Chg F w w' ∧ ∀ k ∈ F', k ∈ F ∨ w.heap.size ≤ k := by
  obtain ⟨F', hm, hc, hk⟩ := m
  have ne : ∀ b, b ∉ F → b < w.heap.size → b ∉ F' := fun b hb hl hm => by
    rcases hk b hm with h1 | h1
    · exact hb h1
    · omega
  exact ⟨F', ⟨hm, h.co.keep hc h.nk h.np h.nq, ne _ h.nk h.co.oldk.lt, ne _ h.np h.co.oldp.lt, ne _ h.nq h.co.oldq.lt, h.lk, h.lp, h.lq⟩, hc, hk⟩
end
theorem CSTo.from {W w w4 : World} {c : Cg} {sy : Nat} {F F4 : List Nat} {kb pb qb : Nat} {S' : Mst} {Q' : Co} {l : List Ev} {e : Ending} {w' : World} (hc : Chg (kb :: pb :: qb :: F) w w4) (hF : ∀ k ∈ F4, k ∈ F ∨ w.heap.size ≤ k) (h : CSTo W w4 c sy F4 kb pb qb S' Q' l e w') : CSTo W w c sy F kb pb qb S' Q' l e w' := by
  obtain ⟨v, F', he, h1, h2, h3, h4⟩ := h
  refine ⟨v, F', he, evv_mono h1 hc.size, h2, hc.trans' h3 ?_, ?_⟩
  · intro x hx
    simp only [List.mem_cons] at hx ⊢
    rcases hx with rfl | rfl | rfl | hx
    · simp
    · simp
    · simp
    · rcases hF x hx with h5 | h5
      · exact .inl (.inr (.inr (.inr h5)))
      · exact .inr h5
  · intro k hk
    rcases h4 k hk with h5 | h5
    · exact hF k h5
    · exact .inr (Nat.le_trans hc.size h5)
theorem chg_core {kb pb qb : Nat} {F : List Nat} {w w' : World} (hc : Chg [kb, pb, qb] w w') : Chg (kb :: pb :: qb :: F) w w' := hc.mono (by intro x hx; left; simp only [List.mem_cons, List.not_mem_nil, or_false] at hx ⊢; rcases hx with rfl | rfl | rfl <;> simp)
theorem chg_sys {kb pb qb : Nat} {F : List Nat} {w w' : World} (hc : Chg F w w') : Chg (kb :: pb :: qb :: F) w w' := hc.mono (by intro x hx; left; simp [hx])
/-- A register is set. -/
theorem Cor.setReg {w : World} {kb pb qb : Nat} {Q : Co} (h : Cor w kb pb qb Q) {a : Nat} (ha : a < 8) {v : Int} (hv : 0 ≤ v) : Cor (w.setCell ⟨kb, 2 + a, none⟩ (.int .u64 v)) kb pb qb (setR Q a v) := by
  have hc := (Chg.refl [kb] w).setCell kb (2 + a) (.int .u64 v) (.inl (by simp))
  refine ⟨?_, h.steps.keep hc (by simp [h.kp.symm]), h.buf.keep hc (by simp [h.kq.symm]), h.kp, h.kq, h.pq, ⟨by show (Q.rg.set _ v).length = 8; rw [List.length_set]; exact h.ok.h8, h.ok.pc, h.ok.np, h.ok.pr, h.ok.wt, h.ok.id, h.ok.pos.setR a hv⟩⟩
  rw [heap_setCell, if_pos rfl, h.own, rowSet_some, coc_setReg h.ok.h8 _ _ _ _ _ _ _ ha]
  rfl
section
variable {W w : World} {c : Cg} {sy n : Nat} {F : List Nat} {S : Mst} {cur : Nat → List Int} {kb pb qb : Nat} {Q : Co} (h : CS W w c sy F S kb pb qb Q) (hI : Inv c n S cur) (hN : NN cur) (hn : n ≤ 1000000000) (hR : Roomy c S) (hT : Tab W)
include h hI hN hn hR hT
theorem eload (a : Int) (ha : 0 ≤ a ∧ a < 8) (li wo : Int) (hp : Q.pc < 2147483648) : Calls Tryz.prog 85 #[.pointer (some ⟨kb, 0, none⟩), .pointer (some ⟨sy, 0, none⟩), .int .i64 a, .int .i64 li, .int .i64 wo] w (CSTo W w c sy F kb pb qb (loadC c S Q a li wo).S (loadC c S Q a li wo).Q (loadC c S Q a li wo).ev) := by
  obtain ⟨na, rfl⟩ : ∃ n : Nat, a = (n : Int) := ⟨a.toNat, by omega⟩
  have la : na < 8 := by omega
  have la' : (na : Int) < 8 := by omega
  have h8 := h.co.ok.h8
  have hb := h.co.own
  have H := Lib.hid h
  have HP := Lib.hid hp
  have SF := Lib.hid (sfind_ok li wo h.co.buf)
  unfold loadC
  cases hf : fdO Q.es li wo with
  | some x =>
    have hv0 : 0 ≤ x.va := h.co.ok.pos.es x (fdO_mem hf)
    have HV := Lib.hid hv0
    rw [show fdV Q.es li wo = x.va by unfold fdV; rw [hf], show fdB Q.es li wo = true by unfold fdB; rw [hf]; rfl] at SF
    show Calls _ _ _ _ (CSTo W w c sy F kb pb qb S (nextC (setR Q na x.va)) [evC Q 2 li wo x.va])
    clear h hI hN hn hR hT hf hv0 ha hp
    generalize x.va = v at *
    go_enter Tryz.func85, Tryz.ntmps85
    try dsimp only [List.append]
    go_wp2_with (go_at_call 137; refine SF.out.mono ?_; rintro e w1 ⟨rfl, c1⟩; have hb1 := c1.keep hb (by simp); have H1 := Lib.hid (H.out.keep0 c1); have HC1 := Lib.hid (show Chg (kb :: pb :: qb :: F) w w1 from c1.mono (by simp)); have HF1 := Lib.hid (show ∀ k ∈ F, k ∈ F ∨ w.heap.size ≤ k from fun k hk => .inl hk); clear c1 hb)
    have HCO := Lib.hid (H1.out.co.setReg la HV.out)
    refine (cevent HCO.out.own 2 li wo v).mono ?_
    rintro e w3 ⟨rfl, c3⟩
    have HC3 := Lib.hid c3
    clear c3
    go_wp2_with fail
    refine (dnext_ev HCO.out (F := F) (fun k hk => by have := H1.out.old k hk; simp; omega) HC3.out _ HP.out).mono ?_
    rintro e w4 ⟨u, rfl, hv⟩
    go_wp2_with fail
    go_ret
    exact CSTo.from HC1.out HF1.out (H1.out.ofCo (CoTo.from ((Chg.refl [kb, pb, qb] w1).setCell kb (2 + na) (.int .u64 v) (.inl (by simp))) ⟨u, rfl, hv⟩))
  | none =>
    rw [show fdV Q.es li wo = 0 by unfold fdV; rw [hf], show fdB Q.es li wo = false by unfold fdB; rw [hf]; rfl] at SF
    have UL := Lib.hid (fun (w1 : World) (c1 : Chg [] w w1) => uload (h.keep0 c1).ms hI hn hR hT Q.id li wo)
    have HV0 := Lib.hid (fun hh => NN.load hI hN (k := Q.id) (li := li) (wd := wo) hh)
    dsimp only
    generalize (loadM c S Q.id li wo).1 = S1 at *
    generalize (loadM c S Q.id li wo).2.v = v at *
    generalize (loadM c S Q.id li wo).2.hit = hit at *
    cases hit
    · show Calls _ _ _ _ (CSTo W w c sy F kb pb qb S1 Q [])
      clear h hI hN hn hR hT hf ha hp
      go_enter Tryz.func85, Tryz.ntmps85
      try dsimp only [List.append]
      go_wp2_with (first | (go_at_call 137; refine SF.out.mono ?_; rintro e w1 ⟨rfl, c1⟩; have hb1 := c1.keep hb (by simp); have HC1 := Lib.hid c1; clear c1 hb) | (go_at_call 138; refine (UL.out _ HC1.out).mono ?_; rintro e w2 ⟨rfl, m2⟩; have HM2 := Lib.hid m2; clear m2))
      go_ret
      obtain ⟨F2, h2, c2, k2⟩ := (H.out.keep0 HC1.out).step HM2.out
      exact CSTo.from (F4 := F2) ((HC1.out.mono (by simp)).trans (chg_sys c2)) (fun k hk => (k2 k hk).imp id (Nat.le_trans HC1.out.size)) ⟨_, F2, rfl, EvV.nil .., h2, Chg.refl _ _, fun k hk => .inl hk⟩
    · have HV := Lib.hid (HV0.out rfl)
      show Calls _ _ _ _ (CSTo W w c sy F kb pb qb S1 (nextC (setR Q na v)) [evC Q 1 li wo v])
      clear h hI hN hn hR hT hf ha hp
      go_enter Tryz.func85, Tryz.ntmps85
      try dsimp only [List.append]
      go_wp2_with (first | (go_at_call 137; refine SF.out.mono ?_; rintro e w0 ⟨rfl, c1⟩; have hb1 := c1.keep hb (by simp); have HC0 := Lib.hid c1; clear c1 hb) | (go_at_call 138; refine (UL.out _ HC0.out).mono ?_; rintro e w1 ⟨rfl, m2⟩; obtain ⟨F2, h2, c2, k2⟩ := (H.out.keep0 HC0.out).step m2; have hb2 := h2.co.own; have H1 := Lib.hid h2; have HC1 := Lib.hid (show Chg (kb :: pb :: qb :: F) w w1 from (HC0.out.mono (by simp)).trans (chg_sys c2)); have HF1 := Lib.hid (show ∀ k ∈ F2, k ∈ F ∨ w.heap.size ≤ k from fun k hk => (k2 k hk).imp id (Nat.le_trans HC0.out.size)); clear m2 h2 c2 k2 hb1))
      have HCO := Lib.hid (H1.out.co.setReg la HV.out)
      refine (cevent HCO.out.own 1 li wo v).mono ?_
      rintro e w3 ⟨rfl, c3⟩
      have HC3 := Lib.hid c3
      clear c3
      go_wp2_with fail
      refine (dnext_ev HCO.out (F := F2) (fun k hk => by have := H1.out.old k hk; simp; omega) HC3.out _ HP.out).mono ?_
      rintro e w4 ⟨u, rfl, hv⟩
      go_wp2_with fail
      go_ret
      exact CSTo.from HC1.out HF1.out (H1.out.ofCo (CoTo.from ((Chg.refl [kb, pb, qb] w1).setCell kb (2 + na) (.int .u64 v) (.inl (by simp))) ⟨u, rfl, hv⟩))
end
end Go.Proofs.YtcjoinhngdfdmaaGreatDoor
end
