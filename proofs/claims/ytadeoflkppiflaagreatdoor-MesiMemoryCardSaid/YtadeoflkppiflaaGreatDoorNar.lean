/- Texts of the walk, one behind the other: Mgh Mgi Wordc. No condition. -/
import Derived.Test.YtadeoflkppiflaaGreatDoorNam
import Derived.Test.YtadeoflkppiflaaGreatDoorNan
import Derived.Test.YtadeoflkppiflaaGreatDoorNaq
import Derived.BigGuard
import Derived.BigGuardPart
import Derived.BigQuiet
import Derived.ChangeKeysEq
import Derived.Deep.Cut
import Derived.Deep.CutBlock
import Derived.Deep.CutRange
import Derived.Deep.DeepCutAuto
import Derived.Deep.QuietTactic
import Derived.Deep.RegionHeld3
import Derived.Deep.RegionWith
import Derived.Laws.StructEq
section
namespace Go.Proofs.YtadeoflkppiflaaGreatDoor
open Go.RowKit
set_option linter.unusedVariables false
set_option maxHeartbeats 1000000
set_option maxRecDepth 100000
attribute [local go_sem ↓] append_appS copy_copS clear_clrS make_mkS cell_row frozen_row loadLine storeLine loadSlot storeSlot heap_drew heap_drewN heap_alloc heap_past heap_setCell heap_putRow vs_get slc_st slc_li slc_us slice_slS loadMsg storeMsg loadHas storeHas msc_kd msc_li msc_di msc_ke
attribute [local go_sem] rowCell_some rowFrozen_some rowHas_some rowIn_some rowPart_full rowPart_lit rowPut_full rowPut_lit rowSet_some size_putRow vs_size vs_one wideLine wideSlot run_loadS run_storeS run_appS run_copS run_clrS run_mkS loadW_at storeW_at fit_all fit_le one_int one_bool one_pointer one_slice allOne_list putRow_new ne_size1 ne_size2 ne_size3 ne_size4 zero8_length lines_nil line_eq lit8 slc_size slc_one slc_part slc_in fold_slt fold_slc slc_set_us wideMsg wideHas run_slS msc_size msc_one msc_part msc_in fold_msc msc_putDi msc_putKe msc_putX msc_has ms4_lit
attribute [local simp ↓] heap_drew heap_drewN heap_alloc heap_past heap_setCell heap_putRow
attribute [local simp] rowCell_some rowFrozen_some rowHas_some rowIn_some rowPart_full rowPart_lit rowPut_full rowPut_lit rowSet_some size_putRow vs_size fit_all putRow_new ne_size1 ne_size2 ne_size3 ne_size4 zero8_length slc_size msc_size msc_putDi msc_putKe msc_putX msc_has fit_le
attribute [local go_sem ↓] ec_he ec_di ec_ow ec_sh ec_bu ec_by ec_wa sc_to
attribute [local go_sem] mi_and mi_or mi_not mi_beq0 mi_bne0 ec_size ec_one ec_part ec_in ec_has ec_setDi ec_setOw ec_setSh ec_setBu ec_setBy ec_setWa ec_setSh0 ec_setWa0 ec_putM sc_size sc_one sc_part sc_in
attribute [local simp] ec_size sc_size ec_setDi ec_setOw ec_setSh ec_setBu ec_setBy ec_setWa ec_setSh0 ec_setWa0 ec_putM
attribute [local go_sem ↓] loadEn storeEn loadSd storeSd en_z0
attribute [local go_sem] wideEn wideSd fold_sc size11 putRow_newB putRow_newC ms5_lit
attribute [local simp] en_z0 putRow_newB putRow_newC fit_le ec_has



attribute [local go_sem ↓] mlitZ zenc_po zenc_en zenc_q
attribute [local simp] mlitZ

attribute [local go_sem ↓] loadMst mstc_0 mstc_1 mstc_2 mstc_3 mstc_4
attribute [local go_sem] wideMst mstc_size mstc_one mstc_part
theorem MTS.wrap {W w w1 w5 w6 : World} {c : Cg} {sy : Nat} {F : List Nat} {S : Mst} (hW : W.heap.size ≤ w.heap.size) (hF : ∀ k ∈ F, k < w.heap.size) (hc : Chg [] w w1) (h : MTS W w1 c sy F S w5) (l : List Nat) (hl : ∀ b ∈ l, w.heap.size ≤ b ∧ (b < w1.heap.size ∨ w5.heap.size ≤ b)) (hc2 : Chg l w5 w6) : MTS W w c sy F S w6 := by
  obtain ⟨F', hm, hch, hk⟩ := h
  have ho := hm.old
  refine ⟨F', hm.keepL hc2 (fun b hb hbF => ?_) (fun b hb => Nat.le_trans hW (hl b hb).1), ?_, fun k hkF => ?_⟩
  · rcases (hl b hb).2 with h1 | h1
    · rcases hk b hbF with h2 | h2
      · have := hF b h2; have := (hl b hb).1; omega
      · omega
    · have := ho b hbF; omega
  · exact ((hc.mono (l' := F) (by simp)).trans' hch (fun k hk => .inl hk)).trans' hc2 (fun k hk => .inr (hl k hk).1)
  · rcases hk k hkF with h2 | h2
    · exact .inl h2
    · exact .inr (Nat.le_trans hc.size h2)
theorem do_0 (x : MStp) (hk : x.kd = 0) {W w : World} {c : Cg} {sy : Nat} {F : List Nat} {S : Mst} (hW : W.heap.size ≤ w.heap.size) (hF : ∀ k ∈ F, k < w.heap.size) (dv : Int) (dh : Bool) (HC : ∀ w1, Chg [] w w1 → Calls Tryz.prog 28 #[.pointer (some ⟨sy, 0, none⟩), .int .i64 x.co, .int .i64 x.li, .int .i64 x.wd] w1 fun e w' => e = .returned (.tuple #[.int .u64 dv, .bool dh]) ∧ MTS W w1 c sy F S w') :
    Calls Tryz.prog 14 #[.pointer (some ⟨sy, 0, none⟩), .agg (mstc x)] w fun e w' => e = .returned (.tuple #[.int .u64 dv, .bool dh, .agg (msc msZ), .int .i64 0]) ∧ MTS W w c sy F S w' := by
  have s0 : (x.kd == 0) = true := by simp; omega
  have HH := Lib.hid HC
  have HF := Lib.hid hF
  have HW := Lib.hid hW
  clear hk HC hF hW
  go_enter Tryz.func14, Tryz.ntmps14
  try dsimp only [List.append]
  go_wp2_with fail
  have r0 : ((w.alloc (.cells (mstc x) 42)).alloc (.cells (msc msZ) 38)).heap[w.heap.size + 1]? = some (.cells (msc msZ) 38 (0, 0)) := by simp
  have C2 := Lib.hid (((Chg.refl [] w).alloc (.cells (mstc x) 42)).alloc (.cells (msc msZ) 38))
  have Z2 := Lib.hid (show ((w.alloc (.cells (mstc x) 42)).alloc (.cells (msc msZ) 38)).heap.size = w.heap.size + 2 by simp)
  refine (HH.out _ C2.out).mono ?_
  rintro e w5 ⟨rfl, m5⟩
  have M5 := Lib.hid m5
  replace r0 := m5.choose_spec.2.1.keep r0 (fun h => by have := HF.out _ h; omega)
  have o0 := old r0
  generalize hb : w.heap.size + 1 = b at r0 o0 ⊢
  have HB := Lib.hid hb
  clear hb m5
  go_wp2_with fail
  refine bodyPost_ret (v := .tuple #[.int .u64 dv, .bool dh, .agg (msc msZ), .int .i64 0]) ?_ (by rfl) ?_
  · exact results_do (by rfl) _ _ b msZ (0, 0) (by rfl) (by first | with_reducible exact r0 | (rw [heap_putRow _ _ _ _ _ (by rw [r0]; rfl), if_pos rfl, r0]; exact rowPut_full _ _ _ _ rfl)) _ _ _ (by rfl) (by rfl) (by rfl)
  · refine ⟨rfl, MTS.wrap HW.out HF.out C2.out M5.out [b] (fun q hq => ?_) (by first | with_reducible exact Chg.refl _ _ | exact (Chg.refl [b] w5).putRow _ _ _ (.inl (by simp)))⟩
    rw [List.mem_singleton] at hq
    subst hq
    have hz := Z2.out
    have hb := HB.out
    exact ⟨by omega, .inl (by omega)⟩
theorem do_1 (x : MStp) (hk : x.kd = 1) {W w : World} {c : Cg} {sy : Nat} {F : List Nat} {S : Mst} (hW : W.heap.size ≤ w.heap.size) (hF : ∀ k ∈ F, k < w.heap.size) (dh : Bool) (HC : ∀ w1, Chg [] w w1 → Calls Tryz.prog 34 #[.pointer (some ⟨sy, 0, none⟩), .int .i64 x.co, .int .i64 x.li, .int .i64 x.wd, .int .u64 x.v] w1 fun e w' => e = .returned (.bool dh) ∧ MTS W w1 c sy F S w') :
    Calls Tryz.prog 14 #[.pointer (some ⟨sy, 0, none⟩), .agg (mstc x)] w fun e w' => e = .returned (.tuple #[.int .u64 0, .bool dh, .agg (msc msZ), .int .i64 0]) ∧ MTS W w c sy F S w' := by
  have s0 : (x.kd == 0) = false := by simp; omega
  have s1 : (x.kd == 1) = true := by simp; omega
  have HH := Lib.hid HC
  have HF := Lib.hid hF
  have HW := Lib.hid hW
  clear hk HC hF hW
  go_enter Tryz.func14, Tryz.ntmps14
  try dsimp only [List.append]
  go_wp2_with fail
  have r0 : ((w.alloc (.cells (mstc x) 42)).alloc (.cells (msc msZ) 38)).heap[w.heap.size + 1]? = some (.cells (msc msZ) 38 (0, 0)) := by simp
  have C2 := Lib.hid (((Chg.refl [] w).alloc (.cells (mstc x) 42)).alloc (.cells (msc msZ) 38))
  have Z2 := Lib.hid (show ((w.alloc (.cells (mstc x) 42)).alloc (.cells (msc msZ) 38)).heap.size = w.heap.size + 2 by simp)
  refine (HH.out _ C2.out).mono ?_
  rintro e w5 ⟨rfl, m5⟩
  have M5 := Lib.hid m5
  replace r0 := m5.choose_spec.2.1.keep r0 (fun h => by have := HF.out _ h; omega)
  have o0 := old r0
  generalize hb : w.heap.size + 1 = b at r0 o0 ⊢
  have HB := Lib.hid hb
  clear hb m5
  go_wp2_with fail
  refine bodyPost_ret (v := .tuple #[.int .u64 0, .bool dh, .agg (msc msZ), .int .i64 0]) ?_ (by rfl) ?_
  · exact results_do (by rfl) _ _ b msZ (0, 0) (by rfl) (by first | with_reducible exact r0 | (rw [heap_putRow _ _ _ _ _ (by rw [r0]; rfl), if_pos rfl, r0]; exact rowPut_full _ _ _ _ rfl)) _ _ _ (by rfl) (by rfl) (by rfl)
  · refine ⟨rfl, MTS.wrap HW.out HF.out C2.out M5.out [b] (fun q hq => ?_) (by first | with_reducible exact Chg.refl _ _ | exact (Chg.refl [b] w5).putRow _ _ _ (.inl (by simp)))⟩
    rw [List.mem_singleton] at hq
    subst hq
    have hz := Z2.out
    have hb := HB.out
    exact ⟨by omega, .inl (by omega)⟩
theorem do_2 (x : MStp) (hk : x.kd = 2) {W w : World} {c : Cg} {sy : Nat} {F : List Nat} {S : Mst} (hW : W.heap.size ≤ w.heap.size) (hF : ∀ k ∈ F, k < w.heap.size) (dh : Bool) (HC : ∀ w1, Chg [] w w1 → Calls Tryz.prog 49 #[.pointer (some ⟨sy, 0, none⟩), .int .i64 x.co, .int .i64 x.li] w1 fun e w' => e = .returned (.bool dh) ∧ MTS W w1 c sy F S w') :
    Calls Tryz.prog 14 #[.pointer (some ⟨sy, 0, none⟩), .agg (mstc x)] w fun e w' => e = .returned (.tuple #[.int .u64 0, .bool dh, .agg (msc msZ), .int .i64 0]) ∧ MTS W w c sy F S w' := by
  have s0 : (x.kd == 0) = false := by simp; omega
  have s1 : (x.kd == 1) = false := by simp; omega
  have s2 : (x.kd == 2) = true := by simp; omega
  have HH := Lib.hid HC
  have HF := Lib.hid hF
  have HW := Lib.hid hW
  clear hk HC hF hW
  go_enter Tryz.func14, Tryz.ntmps14
  try dsimp only [List.append]
  go_wp2_with fail
  have r0 : ((w.alloc (.cells (mstc x) 42)).alloc (.cells (msc msZ) 38)).heap[w.heap.size + 1]? = some (.cells (msc msZ) 38 (0, 0)) := by simp
  have C2 := Lib.hid (((Chg.refl [] w).alloc (.cells (mstc x) 42)).alloc (.cells (msc msZ) 38))
  have Z2 := Lib.hid (show ((w.alloc (.cells (mstc x) 42)).alloc (.cells (msc msZ) 38)).heap.size = w.heap.size + 2 by simp)
  refine (HH.out _ C2.out).mono ?_
  rintro e w5 ⟨rfl, m5⟩
  have M5 := Lib.hid m5
  replace r0 := m5.choose_spec.2.1.keep r0 (fun h => by have := HF.out _ h; omega)
  have o0 := old r0
  generalize hb : w.heap.size + 1 = b at r0 o0 ⊢
  have HB := Lib.hid hb
  clear hb m5
  go_wp2_with fail
  refine bodyPost_ret (v := .tuple #[.int .u64 0, .bool dh, .agg (msc msZ), .int .i64 0]) ?_ (by rfl) ?_
  · exact results_do (by rfl) _ _ b msZ (0, 0) (by rfl) (by first | with_reducible exact r0 | (rw [heap_putRow _ _ _ _ _ (by rw [r0]; rfl), if_pos rfl, r0]; exact rowPut_full _ _ _ _ rfl)) _ _ _ (by rfl) (by rfl) (by rfl)
  · refine ⟨rfl, MTS.wrap HW.out HF.out C2.out M5.out [b] (fun q hq => ?_) (by first | with_reducible exact Chg.refl _ _ | exact (Chg.refl [b] w5).putRow _ _ _ (.inl (by simp)))⟩
    rw [List.mem_singleton] at hq
    subst hq
    have hz := Z2.out
    have hb := HB.out
    exact ⟨by omega, .inl (by omega)⟩
theorem do_3 (x : MStp) (hk : x.kd = 3) (hv : 0 ≤ x.v) {W w : World} {c : Cg} {sy : Nat} {F : List Nat} {S : Mst} (hW : W.heap.size ≤ w.heap.size) (hF : ∀ k ∈ F, k < w.heap.size) (de : Int) (HC : ∀ w1, Chg [] w w1 → Calls Tryz.prog 30 #[.pointer (some ⟨sy, 0, none⟩), .int .i64 x.co, .int .i64 x.li, .int .i64 (4 + x.v % 2)] w1 fun e w' => e = .returned (.int .i64 de) ∧ MTS W w1 c sy F S w') :
    Calls Tryz.prog 14 #[.pointer (some ⟨sy, 0, none⟩), .agg (mstc x)] w fun e w' => e = .returned (.tuple #[.int .u64 0, .bool false, .agg (msc msZ), .int .i64 de]) ∧ MTS W w c sy F S w' := by
  have s0 : (x.kd == 0) = false := by simp; omega
  have s1 : (x.kd == 1) = false := by simp; omega
  have s2 : (x.kd == 2) = false := by simp; omega
  have s3 : (x.kd == 3) = true := by simp; omega
  have HH := Lib.hid HC
  have HF := Lib.hid hF
  have HW := Lib.hid hW
  have hvv : x.v % 2 % 18446744073709551616 = x.v % 2 := by omega
  clear hk HC hF hW
  go_enter Tryz.func14, Tryz.ntmps14
  try dsimp only [List.append]
  go_wp2_with fail
  have r0 : ((w.alloc (.cells (mstc x) 42)).alloc (.cells (msc msZ) 38)).heap[w.heap.size + 1]? = some (.cells (msc msZ) 38 (0, 0)) := by simp
  have C2 := Lib.hid (((Chg.refl [] w).alloc (.cells (mstc x) 42)).alloc (.cells (msc msZ) 38))
  have Z2 := Lib.hid (show ((w.alloc (.cells (mstc x) 42)).alloc (.cells (msc msZ) 38)).heap.size = w.heap.size + 2 by simp)
  refine (HH.out _ C2.out).mono ?_
  rintro e w5 ⟨rfl, m5⟩
  have M5 := Lib.hid m5
  replace r0 := m5.choose_spec.2.1.keep r0 (fun h => by have := HF.out _ h; omega)
  have o0 := old r0
  generalize hb : w.heap.size + 1 = b at r0 o0 ⊢
  have HB := Lib.hid hb
  clear hb m5
  go_wp2_with fail
  refine bodyPost_ret (v := .tuple #[.int .u64 0, .bool false, .agg (msc msZ), .int .i64 de]) ?_ (by rfl) ?_
  · exact results_do (by rfl) _ _ b msZ (0, 0) (by rfl) (by first | with_reducible exact r0 | (rw [heap_putRow _ _ _ _ _ (by rw [r0]; rfl), if_pos rfl, r0]; exact rowPut_full _ _ _ _ rfl)) _ _ _ (by rfl) (by rfl) (by rfl)
  · refine ⟨rfl, MTS.wrap HW.out HF.out C2.out M5.out [b] (fun q hq => ?_) (by first | with_reducible exact Chg.refl _ _ | exact (Chg.refl [b] w5).putRow _ _ _ (.inl (by simp)))⟩
    rw [List.mem_singleton] at hq
    subst hq
    have hz := Z2.out
    have hb := HB.out
    exact ⟨by omega, .inl (by omega)⟩
theorem do_4 (x : MStp) (hk : x.kd = 4) {W w : World} {c : Cg} {sy : Nat} {F : List Nat} {S : Mst} (hW : W.heap.size ≤ w.heap.size) (hF : ∀ k ∈ F, k < w.heap.size) (de : Int) (HC : ∀ w1, Chg [] w w1 → Calls Tryz.prog 35 #[.pointer (some ⟨sy, 0, none⟩), .int .i64 x.co] w1 fun e w' => e = .returned (.int .i64 de) ∧ MTS W w1 c sy F S w') :
    Calls Tryz.prog 14 #[.pointer (some ⟨sy, 0, none⟩), .agg (mstc x)] w fun e w' => e = .returned (.tuple #[.int .u64 0, .bool false, .agg (msc msZ), .int .i64 de]) ∧ MTS W w c sy F S w' := by
  have s0 : (x.kd == 0) = false := by simp; omega
  have s1 : (x.kd == 1) = false := by simp; omega
  have s2 : (x.kd == 2) = false := by simp; omega
  have s3 : (x.kd == 3) = false := by simp; omega
  have s4 : (x.kd == 4) = true := by simp; omega
  have HH := Lib.hid HC
  have HF := Lib.hid hF
  have HW := Lib.hid hW
  clear hk HC hF hW
  go_enter Tryz.func14, Tryz.ntmps14
  try dsimp only [List.append]
  go_wp2_with fail
  have r0 : ((w.alloc (.cells (mstc x) 42)).alloc (.cells (msc msZ) 38)).heap[w.heap.size + 1]? = some (.cells (msc msZ) 38 (0, 0)) := by simp
  have C2 := Lib.hid (((Chg.refl [] w).alloc (.cells (mstc x) 42)).alloc (.cells (msc msZ) 38))
  have Z2 := Lib.hid (show ((w.alloc (.cells (mstc x) 42)).alloc (.cells (msc msZ) 38)).heap.size = w.heap.size + 2 by simp)
  refine (HH.out _ C2.out).mono ?_
  rintro e w5 ⟨rfl, m5⟩
  have M5 := Lib.hid m5
  replace r0 := m5.choose_spec.2.1.keep r0 (fun h => by have := HF.out _ h; omega)
  have o0 := old r0
  generalize hb : w.heap.size + 1 = b at r0 o0 ⊢
  have HB := Lib.hid hb
  clear hb m5
  go_wp2_with fail
  refine bodyPost_ret (v := .tuple #[.int .u64 0, .bool false, .agg (msc msZ), .int .i64 de]) ?_ (by rfl) ?_
  · exact results_do (by rfl) _ _ b msZ (0, 0) (by rfl) (by first | with_reducible exact r0 | (rw [heap_putRow _ _ _ _ _ (by rw [r0]; rfl), if_pos rfl, r0]; exact rowPut_full _ _ _ _ rfl)) _ _ _ (by rfl) (by rfl) (by rfl)
  · refine ⟨rfl, MTS.wrap HW.out HF.out C2.out M5.out [b] (fun q hq => ?_) (by first | with_reducible exact Chg.refl _ _ | exact (Chg.refl [b] w5).putRow _ _ _ (.inl (by simp)))⟩
    rw [List.mem_singleton] at hq
    subst hq
    have hz := Z2.out
    have hb := HB.out
    exact ⟨by omega, .inl (by omega)⟩
theorem do_5 (x : MStp) (hk : x.kd = 5) {W w : World} {c : Cg} {sy : Nat} {F : List Nat} {S : Mst} (hW : W.heap.size ≤ w.heap.size) (hF : ∀ k ∈ F, k < w.heap.size) (de : Int) (HC : ∀ w1, Chg [] w w1 → Calls Tryz.prog 37 #[.pointer (some ⟨sy, 0, none⟩), .int .i64 x.co] w1 fun e w' => e = .returned (.int .i64 de) ∧ MTS W w1 c sy F S w') :
    Calls Tryz.prog 14 #[.pointer (some ⟨sy, 0, none⟩), .agg (mstc x)] w fun e w' => e = .returned (.tuple #[.int .u64 0, .bool false, .agg (msc msZ), .int .i64 de]) ∧ MTS W w c sy F S w' := by
  have s0 : (x.kd == 0) = false := by simp; omega
  have s1 : (x.kd == 1) = false := by simp; omega
  have s2 : (x.kd == 2) = false := by simp; omega
  have s3 : (x.kd == 3) = false := by simp; omega
  have s4 : (x.kd == 4) = false := by simp; omega
  have s5 : (x.kd == 5) = true := by simp; omega
  have HH := Lib.hid HC
  have HF := Lib.hid hF
  have HW := Lib.hid hW
  clear hk HC hF hW
  go_enter Tryz.func14, Tryz.ntmps14
  try dsimp only [List.append]
  go_wp2_with fail
  have r0 : ((w.alloc (.cells (mstc x) 42)).alloc (.cells (msc msZ) 38)).heap[w.heap.size + 1]? = some (.cells (msc msZ) 38 (0, 0)) := by simp
  have C2 := Lib.hid (((Chg.refl [] w).alloc (.cells (mstc x) 42)).alloc (.cells (msc msZ) 38))
  have Z2 := Lib.hid (show ((w.alloc (.cells (mstc x) 42)).alloc (.cells (msc msZ) 38)).heap.size = w.heap.size + 2 by simp)
  refine (HH.out _ C2.out).mono ?_
  rintro e w5 ⟨rfl, m5⟩
  have M5 := Lib.hid m5
  replace r0 := m5.choose_spec.2.1.keep r0 (fun h => by have := HF.out _ h; omega)
  have o0 := old r0
  generalize hb : w.heap.size + 1 = b at r0 o0 ⊢
  have HB := Lib.hid hb
  clear hb m5
  go_wp2_with fail
  refine bodyPost_ret (v := .tuple #[.int .u64 0, .bool false, .agg (msc msZ), .int .i64 de]) ?_ (by rfl) ?_
  · exact results_do (by rfl) _ _ b msZ (0, 0) (by rfl) (by first | with_reducible exact r0 | (rw [heap_putRow _ _ _ _ _ (by rw [r0]; rfl), if_pos rfl, r0]; exact rowPut_full _ _ _ _ rfl)) _ _ _ (by rfl) (by rfl) (by rfl)
  · refine ⟨rfl, MTS.wrap HW.out HF.out C2.out M5.out [b] (fun q hq => ?_) (by first | with_reducible exact Chg.refl _ _ | exact (Chg.refl [b] w5).putRow _ _ _ (.inl (by simp)))⟩
    rw [List.mem_singleton] at hq
    subst hq
    have hz := Z2.out
    have hb := HB.out
    exact ⟨by omega, .inl (by omega)⟩
theorem do_6 (x : MStp) (hk : x.kd = 6) {W w : World} {c : Cg} {sy : Nat} {F : List Nat} {S : Mst} (hW : W.heap.size ≤ w.heap.size) (hF : ∀ k ∈ F, k < w.heap.size) (dm : Ms) (de : Int) (HC : ∀ w1, Chg [] w w1 → Calls Tryz.prog 36 #[.pointer (some ⟨sy, 0, none⟩), .int .i64 x.co] w1 fun e w' => e = .returned (.tuple #[.agg (msc dm), .int .i64 de]) ∧ MTS W w1 c sy F S w') :
    Calls Tryz.prog 14 #[.pointer (some ⟨sy, 0, none⟩), .agg (mstc x)] w fun e w' => e = .returned (.tuple #[.int .u64 0, .bool false, .agg (msc dm), .int .i64 de]) ∧ MTS W w c sy F S w' := by
  have s0 : (x.kd == 0) = false := by simp; omega
  have s1 : (x.kd == 1) = false := by simp; omega
  have s2 : (x.kd == 2) = false := by simp; omega
  have s3 : (x.kd == 3) = false := by simp; omega
  have s4 : (x.kd == 4) = false := by simp; omega
  have s5 : (x.kd == 5) = false := by simp; omega
  have s6 : (x.kd == 6) = true := by simp; omega
  have HH := Lib.hid HC
  have HF := Lib.hid hF
  have HW := Lib.hid hW
  clear hk HC hF hW
  go_enter Tryz.func14, Tryz.ntmps14
  try dsimp only [List.append]
  go_wp2_with fail
  have r0 : ((w.alloc (.cells (mstc x) 42)).alloc (.cells (msc msZ) 38)).heap[w.heap.size + 1]? = some (.cells (msc msZ) 38 (0, 0)) := by simp
  have C2 := Lib.hid (((Chg.refl [] w).alloc (.cells (mstc x) 42)).alloc (.cells (msc msZ) 38))
  have Z2 := Lib.hid (show ((w.alloc (.cells (mstc x) 42)).alloc (.cells (msc msZ) 38)).heap.size = w.heap.size + 2 by simp)
  refine (HH.out _ C2.out).mono ?_
  rintro e w5 ⟨rfl, m5⟩
  have M5 := Lib.hid m5
  replace r0 := m5.choose_spec.2.1.keep r0 (fun h => by have := HF.out _ h; omega)
  have o0 := old r0
  generalize hb : w.heap.size + 1 = b at r0 o0 ⊢
  have HB := Lib.hid hb
  clear hb m5
  go_wp2_with fail
  have ne5 : b ≠ w5.heap.size := by have := o0.lt; omega
  have r1 : (w5.alloc (.cells (msc dm) 38)).heap[b]? = some (.cells (msc msZ) 38 (0, 0)) := ((Chg.refl [] w5).alloc _).keep r0 List.not_mem_nil
  have r2 : (w5.alloc (.cells (msc dm) 38)).heap[w5.heap.size]? = some (.cells (msc dm) 38 (0, 0)) := new_blk _ _
  have C6 := Lib.hid ((Chg.refl [] w5).alloc (.cells (msc dm) 38))
  generalize hb5 : w5.heap.size = b5 at r2 ne5 ⊢
  have HB5 := Lib.hid hb5
  clear hb5
  generalize w5.alloc (.cells (msc dm) 38) = w6 at r1 r2 C6 ⊢
  clear r0 o0
  have o1 := old r1
  have o2 := old r2
  go_region
  all_goals
    go_wp2_with fail
    refine bodyPost_ret (v := .tuple #[.int .u64 0, .bool false, .agg (msc dm), .int .i64 de]) ?_ (by rfl) ?_
    · exact results_do (by rfl) _ _ b dm (0, 0) (by rfl) (by rw [heap_putRow _ _ _ _ _ (by rw [heap_drew, r1, msc_size]; rfl), if_pos rfl, heap_drew, r1]; exact rowPut_full _ _ _ _ (by rw [msc_size, msc_size])) _ _ _ (by rfl) (by rfl) (by rfl)
    · refine ⟨rfl, MTS.wrap HW.out HF.out C2.out M5.out [b] (fun q hq => ?_) (by exact ((C6.out.mono (l' := [b]) (by simp)).drew).putRow _ _ _ (.inl (by simp)))⟩
      rw [List.mem_singleton] at hq
      subst hq
      have hz := Z2.out
      have hb := HB.out
      exact ⟨by omega, .inl (by omega)⟩
theorem do_7 (x : MStp) (hk : x.kd = 7) {W w : World} {c : Cg} {sy : Nat} {F : List Nat} {S : Mst} (hW : W.heap.size ≤ w.heap.size) (hF : ∀ k ∈ F, k < w.heap.size) (de : Int) (HC : ∀ w1, Chg [] w w1 → Calls Tryz.prog 50 #[.pointer (some ⟨sy, 0, none⟩), .int .i64 x.li] w1 fun e w' => e = .returned (.int .i64 de) ∧ MTS W w1 c sy F S w') :
    Calls Tryz.prog 14 #[.pointer (some ⟨sy, 0, none⟩), .agg (mstc x)] w fun e w' => e = .returned (.tuple #[.int .u64 0, .bool false, .agg (msc msZ), .int .i64 de]) ∧ MTS W w c sy F S w' := by
  have s0 : (x.kd == 0) = false := by simp; omega
  have s1 : (x.kd == 1) = false := by simp; omega
  have s2 : (x.kd == 2) = false := by simp; omega
  have s3 : (x.kd == 3) = false := by simp; omega
  have s4 : (x.kd == 4) = false := by simp; omega
  have s5 : (x.kd == 5) = false := by simp; omega
  have s6 : (x.kd == 6) = false := by simp; omega
  have s7 : (x.kd == 7) = true := by simp; omega
  have HH := Lib.hid HC
  have HF := Lib.hid hF
  have HW := Lib.hid hW
  clear hk HC hF hW
  go_enter Tryz.func14, Tryz.ntmps14
  try dsimp only [List.append]
  go_wp2_with fail
  have r0 : ((w.alloc (.cells (mstc x) 42)).alloc (.cells (msc msZ) 38)).heap[w.heap.size + 1]? = some (.cells (msc msZ) 38 (0, 0)) := by simp
  have C2 := Lib.hid (((Chg.refl [] w).alloc (.cells (mstc x) 42)).alloc (.cells (msc msZ) 38))
  have Z2 := Lib.hid (show ((w.alloc (.cells (mstc x) 42)).alloc (.cells (msc msZ) 38)).heap.size = w.heap.size + 2 by simp)
  refine (HH.out _ C2.out).mono ?_
  rintro e w5 ⟨rfl, m5⟩
  have M5 := Lib.hid m5
  replace r0 := m5.choose_spec.2.1.keep r0 (fun h => by have := HF.out _ h; omega)
  have o0 := old r0
  generalize hb : w.heap.size + 1 = b at r0 o0 ⊢
  have HB := Lib.hid hb
  clear hb m5
  go_wp2_with fail
  refine bodyPost_ret (v := .tuple #[.int .u64 0, .bool false, .agg (msc msZ), .int .i64 de]) ?_ (by rfl) ?_
  · exact results_do (by rfl) _ _ b msZ (0, 0) (by rfl) (by first | with_reducible exact r0 | (rw [heap_putRow _ _ _ _ _ (by rw [r0]; rfl), if_pos rfl, r0]; exact rowPut_full _ _ _ _ rfl)) _ _ _ (by rfl) (by rfl) (by rfl)
  · refine ⟨rfl, MTS.wrap HW.out HF.out C2.out M5.out [b] (fun q hq => ?_) (by first | with_reducible exact Chg.refl _ _ | exact (Chg.refl [b] w5).putRow _ _ _ (.inl (by simp)))⟩
    rw [List.mem_singleton] at hq
    subst hq
    have hz := Z2.out
    have hb := HB.out
    exact ⟨by omega, .inl (by omega)⟩
theorem do_8 (x : MStp) (hk : x.kd = 8) {W w : World} {c : Cg} {sy : Nat} {F : List Nat} {S : Mst} (hW : W.heap.size ≤ w.heap.size) (hF : ∀ k ∈ F, k < w.heap.size) (de : Int) (HC : ∀ w1, Chg [] w w1 → Calls Tryz.prog 32 #[.pointer (some ⟨sy, 0, none⟩), .int .i64 x.co, .int .i64 x.li] w1 fun e w' => e = .returned (.int .i64 de) ∧ MTS W w1 c sy F S w') :
    Calls Tryz.prog 14 #[.pointer (some ⟨sy, 0, none⟩), .agg (mstc x)] w fun e w' => e = .returned (.tuple #[.int .u64 0, .bool false, .agg (msc msZ), .int .i64 de]) ∧ MTS W w c sy F S w' := by
  have s0 : (x.kd == 0) = false := by simp; omega
  have s1 : (x.kd == 1) = false := by simp; omega
  have s2 : (x.kd == 2) = false := by simp; omega
  have s3 : (x.kd == 3) = false := by simp; omega
  have s4 : (x.kd == 4) = false := by simp; omega
  have s5 : (x.kd == 5) = false := by simp; omega
  have s6 : (x.kd == 6) = false := by simp; omega
  have s7 : (x.kd == 7) = false := by simp; omega
  have s8 : (x.kd == 8) = true := by simp; omega
  have HH := Lib.hid HC
  have HF := Lib.hid hF
  have HW := Lib.hid hW
  clear hk HC hF hW
  go_enter Tryz.func14, Tryz.ntmps14
  try dsimp only [List.append]
  go_wp2_with fail
  have r0 : ((w.alloc (.cells (mstc x) 42)).alloc (.cells (msc msZ) 38)).heap[w.heap.size + 1]? = some (.cells (msc msZ) 38 (0, 0)) := by simp
  have C2 := Lib.hid (((Chg.refl [] w).alloc (.cells (mstc x) 42)).alloc (.cells (msc msZ) 38))
  have Z2 := Lib.hid (show ((w.alloc (.cells (mstc x) 42)).alloc (.cells (msc msZ) 38)).heap.size = w.heap.size + 2 by simp)
  refine (HH.out _ C2.out).mono ?_
  rintro e w5 ⟨rfl, m5⟩
  have M5 := Lib.hid m5
  replace r0 := m5.choose_spec.2.1.keep r0 (fun h => by have := HF.out _ h; omega)
  have o0 := old r0
  generalize hb : w.heap.size + 1 = b at r0 o0 ⊢
  have HB := Lib.hid hb
  clear hb m5
  go_wp2_with fail
  refine bodyPost_ret (v := .tuple #[.int .u64 0, .bool false, .agg (msc msZ), .int .i64 de]) ?_ (by rfl) ?_
  · exact results_do (by rfl) _ _ b msZ (0, 0) (by rfl) (by first | with_reducible exact r0 | (rw [heap_putRow _ _ _ _ _ (by rw [r0]; rfl), if_pos rfl, r0]; exact rowPut_full _ _ _ _ rfl)) _ _ _ (by rfl) (by rfl) (by rfl)
  · refine ⟨rfl, MTS.wrap HW.out HF.out C2.out M5.out [b] (fun q hq => ?_) (by first | with_reducible exact Chg.refl _ _ | exact (Chg.refl [b] w5).putRow _ _ _ (.inl (by simp)))⟩
    rw [List.mem_singleton] at hq
    subst hq
    have hz := Z2.out
    have hb := HB.out
    exact ⟨by omega, .inl (by omega)⟩
theorem do_9 (x : MStp) (hk : x.kd = 9) {W w : World} {c : Cg} {sy : Nat} {F : List Nat} {S : Mst} (hW : W.heap.size ≤ w.heap.size) (hF : ∀ k ∈ F, k < w.heap.size) (de : Int) (HC : ∀ w1, Chg [] w w1 → Calls Tryz.prog 31 #[.pointer (some ⟨sy, 0, none⟩), .int .i64 x.li] w1 fun e w' => e = .returned (.int .i64 de) ∧ MTS W w1 c sy F S w') :
    Calls Tryz.prog 14 #[.pointer (some ⟨sy, 0, none⟩), .agg (mstc x)] w fun e w' => e = .returned (.tuple #[.int .u64 0, .bool false, .agg (msc msZ), .int .i64 de]) ∧ MTS W w c sy F S w' := by
  have s0 : (x.kd == 0) = false := by simp; omega
  have s1 : (x.kd == 1) = false := by simp; omega
  have s2 : (x.kd == 2) = false := by simp; omega
  have s3 : (x.kd == 3) = false := by simp; omega
  have s4 : (x.kd == 4) = false := by simp; omega
  have s5 : (x.kd == 5) = false := by simp; omega
  have s6 : (x.kd == 6) = false := by simp; omega
  have s7 : (x.kd == 7) = false := by simp; omega
  have s8 : (x.kd == 8) = false := by simp; omega
  have s9 : (x.kd == 9) = true := by simp; omega
  have HH := Lib.hid HC
  have HF := Lib.hid hF
  have HW := Lib.hid hW
  clear hk HC hF hW
  go_enter Tryz.func14, Tryz.ntmps14
  try dsimp only [List.append]
  go_wp2_with fail
  have r0 : ((w.alloc (.cells (mstc x) 42)).alloc (.cells (msc msZ) 38)).heap[w.heap.size + 1]? = some (.cells (msc msZ) 38 (0, 0)) := by simp
  have C2 := Lib.hid (((Chg.refl [] w).alloc (.cells (mstc x) 42)).alloc (.cells (msc msZ) 38))
  have Z2 := Lib.hid (show ((w.alloc (.cells (mstc x) 42)).alloc (.cells (msc msZ) 38)).heap.size = w.heap.size + 2 by simp)
  refine (HH.out _ C2.out).mono ?_
  rintro e w5 ⟨rfl, m5⟩
  have M5 := Lib.hid m5
  replace r0 := m5.choose_spec.2.1.keep r0 (fun h => by have := HF.out _ h; omega)
  have o0 := old r0
  generalize hb : w.heap.size + 1 = b at r0 o0 ⊢
  have HB := Lib.hid hb
  clear hb m5
  go_wp2_with fail
  refine bodyPost_ret (v := .tuple #[.int .u64 0, .bool false, .agg (msc msZ), .int .i64 de]) ?_ (by rfl) ?_
  · exact results_do (by rfl) _ _ b msZ (0, 0) (by rfl) (by first | with_reducible exact r0 | (rw [heap_putRow _ _ _ _ _ (by rw [r0]; rfl), if_pos rfl, r0]; exact rowPut_full _ _ _ _ rfl)) _ _ _ (by rfl) (by rfl) (by rfl)
  · refine ⟨rfl, MTS.wrap HW.out HF.out C2.out M5.out [b] (fun q hq => ?_) (by first | with_reducible exact Chg.refl _ _ | exact (Chg.refl [b] w5).putRow _ _ _ (.inl (by simp)))⟩
    rw [List.mem_singleton] at hq
    subst hq
    have hz := Z2.out
    have hb := HB.out
    exact ⟨by omega, .inl (by omega)⟩
theorem do_10 (x : MStp) (hk : x.kd = 10) {W w : World} {c : Cg} {sy : Nat} {F : List Nat} {S : Mst} (hW : W.heap.size ≤ w.heap.size) (hF : ∀ k ∈ F, k < w.heap.size) (de : Int) (HC : ∀ w1, Chg [] w w1 → Calls Tryz.prog 51 #[.pointer (some ⟨sy, 0, none⟩), .int .i64 x.li] w1 fun e w' => e = .returned (.int .i64 de) ∧ MTS W w1 c sy F S w') :
    Calls Tryz.prog 14 #[.pointer (some ⟨sy, 0, none⟩), .agg (mstc x)] w fun e w' => e = .returned (.tuple #[.int .u64 0, .bool false, .agg (msc msZ), .int .i64 de]) ∧ MTS W w c sy F S w' := by
  have s0 : (x.kd == 0) = false := by simp; omega
  have s1 : (x.kd == 1) = false := by simp; omega
  have s2 : (x.kd == 2) = false := by simp; omega
  have s3 : (x.kd == 3) = false := by simp; omega
  have s4 : (x.kd == 4) = false := by simp; omega
  have s5 : (x.kd == 5) = false := by simp; omega
  have s6 : (x.kd == 6) = false := by simp; omega
  have s7 : (x.kd == 7) = false := by simp; omega
  have s8 : (x.kd == 8) = false := by simp; omega
  have s9 : (x.kd == 9) = false := by simp; omega
  have s10 : (x.kd == 10) = true := by simp; omega
  have HH := Lib.hid HC
  have HF := Lib.hid hF
  have HW := Lib.hid hW
  clear hk HC hF hW
  go_enter Tryz.func14, Tryz.ntmps14
  try dsimp only [List.append]
  go_wp2_with fail
  have r0 : ((w.alloc (.cells (mstc x) 42)).alloc (.cells (msc msZ) 38)).heap[w.heap.size + 1]? = some (.cells (msc msZ) 38 (0, 0)) := by simp
  have C2 := Lib.hid (((Chg.refl [] w).alloc (.cells (mstc x) 42)).alloc (.cells (msc msZ) 38))
  have Z2 := Lib.hid (show ((w.alloc (.cells (mstc x) 42)).alloc (.cells (msc msZ) 38)).heap.size = w.heap.size + 2 by simp)
  refine (HH.out _ C2.out).mono ?_
  rintro e w5 ⟨rfl, m5⟩
  have M5 := Lib.hid m5
  replace r0 := m5.choose_spec.2.1.keep r0 (fun h => by have := HF.out _ h; omega)
  have o0 := old r0
  generalize hb : w.heap.size + 1 = b at r0 o0 ⊢
  have HB := Lib.hid hb
  clear hb m5
  go_wp2_with fail
  refine bodyPost_ret (v := .tuple #[.int .u64 0, .bool false, .agg (msc msZ), .int .i64 de]) ?_ (by rfl) ?_
  · exact results_do (by rfl) _ _ b msZ (0, 0) (by rfl) (by first | with_reducible exact r0 | (rw [heap_putRow _ _ _ _ _ (by rw [r0]; rfl), if_pos rfl, r0]; exact rowPut_full _ _ _ _ rfl)) _ _ _ (by rfl) (by rfl) (by rfl)
  · refine ⟨rfl, MTS.wrap HW.out HF.out C2.out M5.out [b] (fun q hq => ?_) (by first | with_reducible exact Chg.refl _ _ | exact (Chg.refl [b] w5).putRow _ _ _ (.inl (by simp)))⟩
    rw [List.mem_singleton] at hq
    subst hq
    have hz := Z2.out
    have hb := HB.out
    exact ⟨by omega, .inl (by omega)⟩
theorem do_11 (x : MStp) (hk : x.kd = 11) {W w : World} {c : Cg} {sy : Nat} {F : List Nat} {S : Mst} (hW : W.heap.size ≤ w.heap.size) (hF : ∀ k ∈ F, k < w.heap.size) (HC : ∀ w1, Chg [] w w1 → Calls Tryz.prog 22 #[.pointer (some ⟨sy, 0, none⟩)] w1 fun e w' => e = .returned (.tuple #[]) ∧ MTS W w1 c sy F S w') :
    Calls Tryz.prog 14 #[.pointer (some ⟨sy, 0, none⟩), .agg (mstc x)] w fun e w' => e = .returned (.tuple #[.int .u64 0, .bool false, .agg (msc msZ), .int .i64 0]) ∧ MTS W w c sy F S w' := by
  have s0 : (x.kd == 0) = false := by simp; omega
  have s1 : (x.kd == 1) = false := by simp; omega
  have s2 : (x.kd == 2) = false := by simp; omega
  have s3 : (x.kd == 3) = false := by simp; omega
  have s4 : (x.kd == 4) = false := by simp; omega
  have s5 : (x.kd == 5) = false := by simp; omega
  have s6 : (x.kd == 6) = false := by simp; omega
  have s7 : (x.kd == 7) = false := by simp; omega
  have s8 : (x.kd == 8) = false := by simp; omega
  have s9 : (x.kd == 9) = false := by simp; omega
  have s10 : (x.kd == 10) = false := by simp; omega
  have s11 : (x.kd == 11) = true := by simp; omega
  have HH := Lib.hid HC
  have HF := Lib.hid hF
  have HW := Lib.hid hW
  clear hk HC hF hW
  go_enter Tryz.func14, Tryz.ntmps14
  try dsimp only [List.append]
  go_wp2_with fail
  have r0 : ((w.alloc (.cells (mstc x) 42)).alloc (.cells (msc msZ) 38)).heap[w.heap.size + 1]? = some (.cells (msc msZ) 38 (0, 0)) := by simp
  have C2 := Lib.hid (((Chg.refl [] w).alloc (.cells (mstc x) 42)).alloc (.cells (msc msZ) 38))
  have Z2 := Lib.hid (show ((w.alloc (.cells (mstc x) 42)).alloc (.cells (msc msZ) 38)).heap.size = w.heap.size + 2 by simp)
  refine (HH.out _ C2.out).mono ?_
  rintro e w5 ⟨rfl, m5⟩
  have M5 := Lib.hid m5
  replace r0 := m5.choose_spec.2.1.keep r0 (fun h => by have := HF.out _ h; omega)
  have o0 := old r0
  generalize hb : w.heap.size + 1 = b at r0 o0 ⊢
  have HB := Lib.hid hb
  clear hb m5
  go_wp2_with fail
  refine bodyPost_ret (v := .tuple #[.int .u64 0, .bool false, .agg (msc msZ), .int .i64 0]) ?_ (by rfl) ?_
  · exact results_do (by rfl) _ _ b msZ (0, 0) (by rfl) (by first | with_reducible exact r0 | (rw [heap_putRow _ _ _ _ _ (by rw [r0]; rfl), if_pos rfl, r0]; exact rowPut_full _ _ _ _ rfl)) _ _ _ (by rfl) (by rfl) (by rfl)
  · refine ⟨rfl, MTS.wrap HW.out HF.out C2.out M5.out [b] (fun q hq => ?_) (by first | with_reducible exact Chg.refl _ _ | exact (Chg.refl [b] w5).putRow _ _ _ (.inl (by simp)))⟩
    rw [List.mem_singleton] at hq
    subst hq
    have hz := Z2.out
    have hb := HB.out
    exact ⟨by omega, .inl (by omega)⟩
theorem do_12 (x : MStp) (hk : (x.kd < 0 ∨ 11 < x.kd)) {W w : World} {c : Cg} {sy : Nat} {F : List Nat} {S : Mst} (hW : W.heap.size ≤ w.heap.size) (hF : ∀ k ∈ F, k < w.heap.size) (HC : ∀ w1, Chg [] w w1 → MTS W w1 c sy F S w1) :
    Calls Tryz.prog 14 #[.pointer (some ⟨sy, 0, none⟩), .agg (mstc x)] w fun e w' => e = .returned (.tuple #[.int .u64 0, .bool false, .agg (msc msZ), .int .i64 0]) ∧ MTS W w c sy F S w' := by
  have s0 : (x.kd == 0) = false := by simp; omega
  have s1 : (x.kd == 1) = false := by simp; omega
  have s2 : (x.kd == 2) = false := by simp; omega
  have s3 : (x.kd == 3) = false := by simp; omega
  have s4 : (x.kd == 4) = false := by simp; omega
  have s5 : (x.kd == 5) = false := by simp; omega
  have s6 : (x.kd == 6) = false := by simp; omega
  have s7 : (x.kd == 7) = false := by simp; omega
  have s8 : (x.kd == 8) = false := by simp; omega
  have s9 : (x.kd == 9) = false := by simp; omega
  have s10 : (x.kd == 10) = false := by simp; omega
  have s11 : (x.kd == 11) = false := by simp; omega
  have HH := Lib.hid HC
  have HF := Lib.hid hF
  have HW := Lib.hid hW
  clear hk HC hF hW
  go_enter Tryz.func14, Tryz.ntmps14
  try dsimp only [List.append]
  go_wp2_with fail
  refine bodyPost_ret (v := .tuple #[.int .u64 0, .bool false, .agg (msc msZ), .int .i64 0]) ?_ (by rfl) ?_
  · exact results_do (by rfl) _ _ (w.heap.size + 1) msZ (0, 0) (by rfl) (by simp [*]) _ _ _ (by rfl) (by rfl) (by rfl)
  · exact ⟨rfl, MTS.wrap HW.out HF.out (w1 := w) (Chg.refl _ _) (HH.out w (Chg.refl _ _)) [] (fun q hq => by cases hq) (by (repeat' (first | with_reducible exact Chg.refl _ _ | with_reducible assumption | with_reducible refine Chg.drew ?_ | with_reducible refine Chg.drewN ?_ _ | with_reducible refine Chg.alloc ?_ _ | with_reducible refine Chg.putRow ?_ _ _ _ (.inr ?_) | with_reducible refine Chg.setCell ?_ _ _ _ (.inr ?_)  | (show _ ≤ _; first | exact Nat.le_refl _ | omega | (simp; done)))))⟩
section
variable (c : Cg) (S : Mst) (k li wd v kd : Int)
theorem loadM_did : (loadM c S k li wd).2.m = msZ ∧ (loadM c S k li wd).2.e = 0 := by
  unfold loadM; split
  · exact ⟨rfl, rfl⟩
  · split <;> exact ⟨rfl, rfl⟩
theorem storeM_did : (storeM c S k li wd v).2.v = 0 ∧ (storeM c S k li wd v).2.m = msZ ∧ (storeM c S k li wd v).2.e = 0 := by
  unfold storeM; split
  · exact ⟨rfl, rfl, rfl⟩
  · split <;> exact ⟨rfl, rfl, rfl⟩
theorem reachM_did : (reachM c S k li).2.v = 0 ∧ (reachM c S k li).2.m = msZ ∧ (reachM c S k li).2.e = 0 := by
  unfold reachM; split
  · exact ⟨rfl, rfl, rfl⟩
  · split
    · split <;> exact ⟨rfl, rfl, rfl⟩
    · exact ⟨rfl, rfl, rfl⟩
theorem flushM_did : (flushM c S k li kd).2.v = 0 ∧ (flushM c S k li kd).2.hit = false ∧ (flushM c S k li kd).2.m = msZ := by
  unfold flushM; split
  · exact ⟨rfl, rfl, rfl⟩
  · split <;> exact ⟨rfl, rfl, rfl⟩
theorem evictM_did : (evictM c S k li).2.v = 0 ∧ (evictM c S k li).2.hit = false ∧ (evictM c S k li).2.m = msZ := by
  unfold evictM; split
  · exact ⟨rfl, rfl, rfl⟩
  · split <;> exact ⟨rfl, rfl, rfl⟩
theorem upM_did : (upM c S k).2.v = 0 ∧ (upM c S k).2.hit = false ∧ (upM c S k).2.m = msZ := by
  unfold upM; split
  · exact ⟨rfl, rfl, rfl⟩
  · split
    · exact ⟨rfl, rfl, rfl⟩
    · split
      · exact ⟨rfl, rfl, rfl⟩
      · split <;> exact ⟨rfl, rfl, rfl⟩
theorem answerM_did : (answerM c S k).2.v = 0 ∧ (answerM c S k).2.hit = false ∧ (answerM c S k).2.m = msZ := by
  unfold answerM; split
  · exact ⟨rfl, rfl, rfl⟩
  · split
    · exact ⟨rfl, rfl, rfl⟩
    · split
      · exact ⟨rfl, rfl, rfl⟩
      · split <;> exact ⟨rfl, rfl, rfl⟩
theorem hearM_did : (hearM c S k).2.v = 0 ∧ (hearM c S k).2.hit = false := by
  unfold hearM; split
  · exact ⟨rfl, rfl⟩
  · split
    · exact ⟨rfl, rfl⟩
    · split <;> exact ⟨rfl, rfl⟩
theorem pushM_did : (pushM c S li).2.v = 0 ∧ (pushM c S li).2.hit = false ∧ (pushM c S li).2.m = msZ := by
  unfold pushM; split
  · split
    · exact ⟨rfl, rfl, rfl⟩
    · split
      · split <;> exact ⟨rfl, rfl, rfl⟩
      · exact ⟨rfl, rfl, rfl⟩
  · exact ⟨rfl, rfl, rfl⟩
theorem dropM_did : (dropM c S li).2.v = 0 ∧ (dropM c S li).2.hit = false ∧ (dropM c S li).2.m = msZ := by
  unfold dropM; split
  · split
    · exact ⟨rfl, rfl, rfl⟩
    · split
      · exact ⟨rfl, rfl, rfl⟩
      · split <;> exact ⟨rfl, rfl, rfl⟩
  · exact ⟨rfl, rfl, rfl⟩
theorem drainM_did : (drainM c S li).2.v = 0 ∧ (drainM c S li).2.hit = false ∧ (drainM c S li).2.m = msZ := by
  unfold drainM; split <;> exact ⟨rfl, rfl, rfl⟩
end
def didV (d : MDid) : Value := .tuple #[.int .u64 d.v, .bool d.hit, .agg (msc d.m), .int .i64 d.e]
/-- A step. -/
theorem do_any {W w : World} {c : Cg} {sy n : Nat} {F : List Nat} {S : Mst} {cur : Nat → List Int} (hm : MS W w c sy F S) (hI : Inv c n S cur) (hn : n ≤ 900) (hT : Tabs W) (x : MStp) (hv : 0 ≤ x.v) :
    Calls Tryz.prog 14 #[.pointer (some ⟨sy, 0, none⟩), .agg (mstc x)] w fun e w' => e = .returned (didV (stepM c S x.kd x.co x.li x.wd x.v).2) ∧ MTS W w c sy F (stepM c S x.kd x.co x.li x.wd x.v).1 w' := by
  have hW : W.heap.size ≤ w.heap.size := (Mem.chg hm).size
  have hF := Mem.old hm
  have hk : ∀ w1, Chg [] w w1 → MS W w1 c sy F S := fun w1 hc => Mem.keep hm hc
  unfold stepM
  by_cases h0 : x.kd = 0
  · rw [if_pos h0]
    have := do_0 x h0 hW hF (loadM c S x.co x.li x.wd).2.v (loadM c S x.co x.li x.wd).2.hit (fun w1 hc => yload (hk w1 hc) hI hn hT x.co x.li x.wd)
    unfold didV
    rw [(loadM_did c S x.co x.li x.wd).1, (loadM_did c S x.co x.li x.wd).2]
    exact this
  rw [if_neg h0]
  by_cases h1 : x.kd = 1
  · rw [if_pos h1]
    have := do_1 x h1 hW hF (storeM c S x.co x.li x.wd x.v).2.hit (fun w1 hc => ystore (hk w1 hc) hI hn hT x.co x.li x.wd x.v)
    unfold didV
    obtain ⟨e1, e2, e3⟩ := storeM_did c S x.co x.li x.wd x.v
    rw [e1, e2, e3]
    exact this
  rw [if_neg h1]
  by_cases h2 : x.kd = 2
  · rw [if_pos h2]
    have := do_2 x h2 hW hF (reachM c S x.co x.li).2.hit (fun w1 hc => yreach (hk w1 hc) hI hn hT x.co x.li)
    unfold didV
    obtain ⟨e1, e2, e3⟩ := reachM_did c S x.co x.li
    rw [e1, e2, e3]
    exact this
  rw [if_neg h2]
  by_cases h3 : x.kd = 3
  · rw [if_pos h3]
    have := do_3 x h3 hv hW hF (flushM c S x.co x.li (4 + x.v % 2)).2.e (fun w1 hc => yflush (hk w1 hc) hI hn hT x.co x.li (4 + x.v % 2))
    unfold didV
    obtain ⟨e1, e2, e3⟩ := flushM_did c S x.co x.li (4 + x.v % 2)
    rw [e1, e2, e3]
    exact this
  rw [if_neg h3]
  by_cases h4 : x.kd = 4
  · rw [if_pos h4]
    have := do_4 x h4 hW hF (upM c S x.co).2.e (fun w1 hc => yup (hk w1 hc) hI hn hT x.co)
    unfold didV
    obtain ⟨e1, e2, e3⟩ := upM_did c S x.co
    rw [e1, e2, e3]
    exact this
  rw [if_neg h4]
  by_cases h5 : x.kd = 5
  · rw [if_pos h5]
    have := do_5 x h5 hW hF (answerM c S x.co).2.e (fun w1 hc => yanswer (hk w1 hc) hI hn hT x.co)
    unfold didV
    obtain ⟨e1, e2, e3⟩ := answerM_did c S x.co
    rw [e1, e2, e3]
    exact this
  rw [if_neg h5]
  by_cases h6 : x.kd = 6
  · rw [if_pos h6]
    have := do_6 x h6 hW hF (hearM c S x.co).2.m (hearM c S x.co).2.e (fun w1 hc => yhear (hk w1 hc) hI hn hT x.co)
    unfold didV
    obtain ⟨e1, e2⟩ := hearM_did c S x.co
    rw [e1, e2]
    exact this
  rw [if_neg h6]
  by_cases h7 : x.kd = 7
  · rw [if_pos h7]
    have := do_7 x h7 hW hF (pushM c S x.li).2.e (fun w1 hc => ypush (hk w1 hc) hI hn hT x.li)
    unfold didV
    obtain ⟨e1, e2, e3⟩ := pushM_did c S x.li
    rw [e1, e2, e3]
    exact this
  rw [if_neg h7]
  by_cases h8 : x.kd = 8
  · rw [if_pos h8]
    have := do_8 x h8 hW hF (evictM c S x.co x.li).2.e (fun w1 hc => yevict (hk w1 hc) hI hn hT x.co x.li)
    unfold didV
    obtain ⟨e1, e2, e3⟩ := evictM_did c S x.co x.li
    rw [e1, e2, e3]
    exact this
  rw [if_neg h8]
  by_cases h9 : x.kd = 9
  · rw [if_pos h9]
    have := do_9 x h9 hW hF (dropM c S x.li).2.e (fun w1 hc => ydrop (hk w1 hc) hI hn hT x.li)
    unfold didV
    obtain ⟨e1, e2, e3⟩ := dropM_did c S x.li
    rw [e1, e2, e3]
    exact this
  rw [if_neg h9]
  by_cases h10 : x.kd = 10
  · rw [if_pos h10]
    have := do_10 x h10 hW hF (drainM c S x.li).2.e (fun w1 hc => ydrain (hk w1 hc) hI hn hT x.li)
    unfold didV
    obtain ⟨e1, e2, e3⟩ := drainM_did c S x.li
    rw [e1, e2, e3]
    exact this
  rw [if_neg h10]
  by_cases h11 : x.kd = 11
  · rw [if_pos h11]
    exact do_11 x h11 hW hF (fun w1 hc => yfail (hk w1 hc) hI)
  rw [if_neg h11]
  exact do_12 x (by omega) hW hF (fun w1 hc => MS.same (hk w1 hc) (Chg.refl _ _))
end Go.Proofs.YtadeoflkppiflaaGreatDoor
end
section
namespace Go.Proofs.YtadeoflkppiflaaGreatDoor
open Go.RowKit
set_option linter.unusedVariables false
set_option maxHeartbeats 1000000
set_option maxRecDepth 100000
attribute [local go_sem ↓] append_appS copy_copS clear_clrS make_mkS cell_row frozen_row loadLine storeLine loadSlot storeSlot heap_drew heap_drewN heap_alloc heap_past heap_setCell heap_putRow vs_get slc_st slc_li slc_us slice_slS loadMsg storeMsg loadHas storeHas msc_kd msc_li msc_di msc_ke
attribute [local go_sem] rowCell_some rowFrozen_some rowHas_some rowIn_some rowPart_full rowPart_lit rowPut_full rowPut_lit rowSet_some size_putRow vs_size vs_one wideLine wideSlot run_loadS run_storeS run_appS run_copS run_clrS run_mkS loadW_at storeW_at fit_all fit_le one_int one_bool one_pointer one_slice allOne_list putRow_new ne_size1 ne_size2 ne_size3 ne_size4 zero8_length lines_nil line_eq lit8 slc_size slc_one slc_part slc_in fold_slt fold_slc slc_set_us wideMsg wideHas run_slS msc_size msc_one msc_part msc_in fold_msc msc_putDi msc_putKe msc_putX msc_has ms4_lit
attribute [local simp ↓] heap_drew heap_drewN heap_alloc heap_past heap_setCell heap_putRow
attribute [local simp] rowCell_some rowFrozen_some rowHas_some rowIn_some rowPart_full rowPart_lit rowPut_full rowPut_lit rowSet_some size_putRow vs_size fit_all putRow_new ne_size1 ne_size2 ne_size3 ne_size4 zero8_length slc_size msc_size msc_putDi msc_putKe msc_putX msc_has fit_le
attribute [local go_sem ↓] ec_he ec_di ec_ow ec_sh ec_bu ec_by ec_wa sc_to
attribute [local go_sem] mi_and mi_or mi_not mi_beq0 mi_bne0 ec_size ec_one ec_part ec_in ec_has ec_setDi ec_setOw ec_setSh ec_setBu ec_setBy ec_setWa ec_setSh0 ec_setWa0 ec_putM sc_size sc_one sc_part sc_in
attribute [local simp] ec_size sc_size ec_setDi ec_setOw ec_setSh ec_setBu ec_setBy ec_setWa ec_setSh0 ec_setWa0 ec_putM
attribute [local go_sem ↓] loadEn storeEn loadSd storeSd en_z0
attribute [local go_sem] wideEn wideSd fold_sc size11 putRow_newB putRow_newC ms5_lit
attribute [local simp] en_z0 putRow_newB putRow_newC fit_le ec_has


def SlotsNew (w0 : World) (ys : List Slt) (e : Ending) (w' : World) : Prop := ∃ A c, e = .returned (.slice A ys.length c) ∧ Sl w' 11 A ys.length (cat Slt.enc ys) ∧ Chg [] w0 w' ∧ ∀ p, A = some p → w0.heap.size ≤ p.block
theorem aslots_new (a b S W : Nat) (xs : List Slt) (u : Int) (w : World) (h : Arr w a b S W xs u) :
    Calls Tryz.prog 124 #[.pointer (some ⟨a, 0, none⟩)] w (SlotsNew w (live xs)) := by
  have ha := h.1
  have HB := Lib.hid h.2.1
  have h64 := h.2.2.2.len64
  have HOA := Lib.hid h.olda
  obtain ⟨n, hn⟩ : ∃ n, xs.length = n := ⟨_, rfl⟩
  have HN := Lib.hid hn
  rw [hn] at ha h64
  have g2 : (n : Int) ≤ 64 := by omega
  clear h hn
  go_enter Tryz.func124, Tryz.ntmps124
  go_wp2_with fail
  go_loopw [13, 3] (fun i s3 wr => ∃ (k be cap : Nat) (A : Option Addr), k ≤ n ∧ i = .int .i64 k ∧ s3 = .slice A (live (xs.take k)).length cap ∧ Chg [] w wr ∧ Vec 11 54 Slt.enc wr a be A cap (live (xs.take k)) ∧ (be = a ∨ w.heap.size ≤ be)) (fun i _ _ => n - (intOf i).toNat)
  case atStart => exact ⟨0, a, 0, none, by omega, rfl, rfl, Chg.refl _ _, Vec.nil _ _ _ _ _, .inl rfl⟩
  case round =>
    obtain ⟨k, be, cap, A, hk, rfl, rfl, hc, hv, hbe⟩ := hrel
    have HC := Lib.hid hc
    have HV := Lib.hid hv
    have HE := Lib.hid hbe
    clear hc hv hbe
    by_cases hlt : k < n
    · obtain ⟨y, hy⟩ : ∃ y, xs[k]? = some y := ⟨xs[k]'(by rw [HN.out]; exact hlt), List.getElem?_eq_getElem _⟩
      have hb := HC.out.keep HB.out (by simp)
      have ob := old hb
      have r1 := slt_row hy [] 54 (0, 0)
      have r2 := slt_rowIn hy [] 54 (0, 0)
      have g1 : (k : Int) < (n : Int) := by omega
      have g0 : (0 : Int) ≤ (k : Int) := by omega
      have HY := Lib.hid hy
      have HLE := Lib.hid (live_take_le xs k)
      clear hy
      by_cases hs : y.st = 0
      · have t1 : (y.st != 0) = false := by simp [hs]
        have HP := Lib.hid (live_skip HY.out hs)
        go_wp2_with fail
        go_roundw
        case rel =>
          rw [HP.out]
          refine ⟨k + 1, be, cap, A, by omega, by go_num, rfl, HC.out.alloc _, ?_, HE.out⟩
          rw [← HP.out]
          exact HV.out.keep ((Chg.refl [] wr).alloc _) (by simp)
        case measure => simp [intOf]; omega
      · have t1 : (y.st != 0) = true := by simp [hs]
        have HP := Lib.hid (live_succ HY.out hs)
        have c1 := (Chg.refl [] wr).alloc (.cells (slc y) 54)
        have hx1 : (wr.alloc (.cells (slc y) 54)).heap[wr.heap.size]? = some (.cells (slc y) 54 (0, 0)) := by simp
        have e1 : (wr.alloc (.cells (slc y) 54)).heap.size = wr.heap.size + 1 := by simp
        obtain ⟨be', cap', A', w2, happ, hv2, hbe2, hc2⟩ := Vec.acc (ty := 51) eltSlot (w0 := w) (((HC.out.alloc (.cells (slc y) 54)).alloc (.cells (slc y) 54)))
          ((HV.out.keep c1 (by simp)).keep ((Chg.refl [] _).alloc (.cells (slc y) 54)) (by simp)) HE.out HOA.out (slt_slice (wr.alloc (.cells (slc y) 54)) y 54) (c := 1) rfl (by have := HLE.out; omega) (by have := HLE.out; unfold maxLen; omega)
        rw [e1] at happ
        have HV2 := Lib.hid hv2
        have HB2 := Lib.hid hbe2
        have HC2 := Lib.hid hc2
        clear hv2 hbe2 hc2 c1 e1
        go_wp2_with fail
        go_roundw
        case rel =>
          refine ⟨k + 1, be', cap', A', by omega, by go_num, ?_, HC2.out, by rw [← HP.out]; exact HV2.out, HB2.out⟩
          rw [← HP.out, List.length_append]; rfl
        case measure => simp [intOf]; omega
    · obtain rfl : k = n := by omega
      go_wp2_with fail
      go_ret
      have e1 : live (xs.take k) = live xs := by rw [← HN.out, List.take_length]
      rw [e1] at HV ⊢
      refine ⟨A, cap, rfl, HV.out.sl Slt.len, HC.out, fun p hp => ?_⟩
      rcases HV.out with ⟨_, hA, _⟩ | ⟨hne, hA, _⟩
      · rw [hA] at hp; cases hp
      · rw [hA] at hp; cases hp
        exact HE.out.resolve_left hne
theorem gslots_new {W : World} {g a b S N : Nat} {s : Sta}  (w : World) (h : Agt W w g a b S N s) : Calls Tryz.prog 75 #[.pointer (some ⟨g, 0, none⟩)] w (SlotsNew w (live s.1)) := by
  have H := Lib.hid h
  have rG := h.2.1
  clear h
  go_enter Tryz.func75, Tryz.ntmps75
  try dsimp only [List.append]
  go_wp2_with fail
  refine (aslots_new a b S N s.1 s.2 w H.out.arr).mono ?_
  rintro e w2 ⟨A, c, rfl, hs, c2, hnw⟩
  have HS := Lib.hid hs
  have HNW := Lib.hid hnw
  have HC := Lib.hid c2
  clear hs c2 hnw
  go_wp2_with fail
  go_ret
  exact ⟨A, c, rfl, HS.out, HC.out, HNW.out⟩
section
variable {W : World} {c : Cg} {z : Lay} {L : List (Po × Pt)} {en : List En} {es : List Ent} {xs : List Int}
theorem zslots_new (i : Nat) (p : Po) (x : Pt) (w : World) (h : Msd W w c z L en es xs) (hy : L[i]? = some (p, x)) : Calls Tryz.prog 19 #[.pointer (some ⟨z.sy, 0, none⟩), .int .i64 i] w (SlotsNew w (live x.s.1)) := by
  have hi : i < c.co := by rw [← h.cores]; exact (List.getElem?_eq_some_iff.1 hy).1
  have hk := h.ok _ (List.mem_of_getElem? hy)
  have HG := Lib.hid (gslots_new w hk.1)
  have rP := h.ports
  have c0 : (sq penc L [])[i * 7]? = some (.pointer (some ⟨p.g, 0, none⟩)) := pcell hy 0 (by decide)
  have HH := Lib.hid h
  have HI := Lib.hid hi
  clear h hy hk hi
  go_enter Tryz.func19, Tryz.ntmps19
  try dsimp only [List.append]
  go_wp2_with (first | (go_at_call 74; refine (port_ok i _ HH.out HI.out).mono ?_; rintro e w' ⟨rfl, rfl⟩))
  refine HG.out.mono ?_
  rintro e w2 ⟨A, n, rfl, hs, hc, hnw⟩
  have HS := Lib.hid hs
  have HNW := Lib.hid hnw
  have HC := Lib.hid hc
  clear hs hc hnw
  go_wp2_with fail
  go_ret
  exact ⟨A, n, rfl, HS.out, HC.out, HNW.out⟩
end
theorem mslots_new {W w : World} {c : Cg} {sy : Nat} {F : List Nat} {ps : List Pt} {en : List En} {es : List Ent} {xs : List Int} (hm : Mem W w c sy F ps en es xs) (i : Nat) (x : Pt) (hy : ps[i]? = some x) : Calls Tryz.prog 19 #[.pointer (some ⟨sy, 0, none⟩), .int .i64 i] w (SlotsNew w (live x.s.1)) := by
  obtain ⟨z, L, rfl, rfl, rfl, h⟩ := hm
  obtain ⟨p, hp⟩ := ports_of hy
  exact zslots_new i p x w h hp
/-! ### Slots compared -/
def eqS (a b : Slt) : Bool := a.st == b.st && (a.li == b.li && (a.l == b.l && a.us == b.us))
theorem eqS_iff (a b : Slt) : eqS a b = true ↔ a = b := by
  simp only [eqS, Bool.and_eq_true, beq_iff_eq]
  constructor
  · rintro ⟨h1, h2, h3, h4⟩; cases a; cases b; simp_all
  · rintro rfl; exact ⟨rfl, rfl, rfl, rfl⟩
theorem line_partS (x : Slt) (w : World) : (part 36 (slc x) 2).run Tryz.prog w = .ok (.agg (vs x.l)) w := by
  obtain ⟨i, hi⟩ : ∃ i, Tryz.prog.info? 36 = some i := Option.isSome_iff_exists.1 (by kernel_rfl)
  have hc : Tryz.prog.cellsOf 36 = 8 := by kernel_rfl
  have he : (slc x).extract 2 (2 + 8) = vs x.l := by
    obtain ⟨st, li, l, us, h⟩ := x
    obtain ⟨a0, a1, a2, a3, a4, a5, a6, a7, rfl⟩ := eight h
    rfl
  simp [part, isAgg, run_underlying Tryz.underlying36, he]
theorem slt_eq (a b : Slt) (w : World) : (Op.equalIn 10000 54 (.agg (slc a)) (.agg (slc b))).run Tryz.prog w = .ok (eqS a b) w := by
  have p := fun (x : Slt) => run_part_plain (P := Tryz.prog) w (e := 3) (by kernel_rfl) (slc_st x)
  have q := fun (x : Slt) => run_part_plain (P := Tryz.prog) w (e := 3) (by kernel_rfl) (slc_li x)
  have r := fun (x : Slt) => run_part_plain (P := Tryz.prog) w (e := 3) (by kernel_rfl) (slc_us x)
  have l := fun (x : Slt) => line_partS x w
  have e0 := fun a b => run_equalIn_int w 9998 3 .i64 .i64 a b Tryz.underlying3
  have e2 : (Op.equalIn 9999 36 (.agg (vs a.l)) (.agg (vs b.l))).run Tryz.prog w = .ok (a.l == b.l) w := by
    obtain ⟨i0, hi0⟩ : ∃ i, Tryz.prog.info? 34 = some i := Option.isSome_iff_exists.1 (by kernel_rfl)
    rw [run_equalIn_array w 9998 _ _ Tryz.underlying36 hi0, show Tryz.prog.cellsOf 34 = 1 by kernel_rfl]
    have := eqItems_ints (P := Tryz.prog) w 9997 (k := .u64) Tryz.underlying34 (by kernel_rfl) a.l b.l (List.range 8) (by intro i hi; have := a.h; have := b.h; simp at hi; omega)
    unfold vs
    rw [this]
    congr 1
    rw [Bool.eq_iff_iff]
    simp only [List.all_eq_true, List.mem_range, beq_iff_eq]
    constructor
    · intro h
      apply List.ext_getElem (by rw [a.h, b.h])
      intro j h1 h2
      have := h j (by rw [a.h] at h1; exact h1)
      simpa [h1, h2] using this
    · intro h j _; rw [h]
  rw [run_equalIn_struct w 9999 54 _ _ (by simp only [Program.fieldsOf, Tryz.underlying54]) (by kernel_rfl)]
  simp only [Program.fieldsOf, Tryz.underlying54]
  unfold eqS
  simp only [Op.eqFields, ne_eq, String.reduceEq, not_false_eq_true, ↓reduceIte, Sem.run_bind, p, q, r, l, e0, e2, Result.andThen_ok, run_ite', Bool.not_eq_true']
  generalize (a.st == b.st) = x1
  generalize (a.li == b.li) = x2
  generalize (a.l == b.l) = x3
  generalize (a.us == b.us) = x4
  clear p q r l e0 e2
  cases x1
  · simp
  cases x2
  · simp
  cases x3
  · simp
  cases x4 <;> simp
theorem slt_whole2 {w wr : World} {l : List Nat} {n b o k : Nat} {ys : List Slt} {y : Slt} (h : Sl w 11 (some ⟨b, o, none⟩) n (cat Slt.enc ys)) (hc : Chg l w wr) (hb : b ∉ l) (hk : k < n) (hy : ys[k]? = some y) :
    ∃ c t f, wr.heap[b]? = some (.cells c t f) ∧ rowIn (some (.cells c t f)) (o + k * 11) 11 = true ∧ rowPart (some (.cells c t f)) (o + k * 11) 11 = slc y := slt_whole h hc hb hk hy
/-- Slots that are not what they were are told so. -/
theorem sames_no {W w : World} {c : Cg} {sy : Nat} {F : List Nat} {ps : List Pt} {en : List En} {es : List Ent} {xs : List Int} (hm : Mem W w c sy F ps en es xs) (i : Nat) (x : Pt) (hy : ps[i]? = some x) (A : Option Addr) (n cn : Nat) (ts : List Slt) (hn : ts.length = n) (h64 : n ≤ 64) (hA : Sl w 11 A n (cat Slt.enc ts)) (hne : live x.s.1 ≠ ts) (hl64 : (live x.s.1).length ≤ 64) :
    Calls Tryz.prog 21 #[.slice A n cn, .pointer (some ⟨sy, 0, none⟩), .int .i64 i] w fun e w' => e = .returned (.bool false) ∧ Chg [] w w' := by
  have HM := Lib.hid hm
  have HS := Lib.hid (mslots_new hm i x hy)
  have HA := Lib.hid hA
  have HN := Lib.hid hn
  obtain ⟨ys, hys⟩ : ∃ ys, live x.s.1 = ys := ⟨_, rfl⟩
  rw [hys] at HS hne hl64
  have HNE := Lib.hid hne
  obtain ⟨m, hm'⟩ : ∃ m, ys.length = m := ⟨_, rfl⟩
  have HMM := Lib.hid hm'
  rw [hm'] at hl64
  have g64 : (n : Int) ≤ 64 := by omega
  have m64 : (m : Int) ≤ 64 := by omega
  clear hm hA hn hne hys hy hm'
  go_enter Tryz.func21, Tryz.ntmps21
  try dsimp only [List.append]
  go_wp2_with fail
  refine HS.out.mono ?_
  rintro e w2 ⟨B, cb, rfl, hs, hc, _⟩
  rw [HMM.out] at hs ⊢
  have HB := Lib.hid hs
  have HC := Lib.hid hc
  have HA2 := Lib.hid (HA.out.chg hc (by simp))
  clear hs hc
  by_cases hnm : n = m
  · obtain rfl := hnm
    have tn : ((n : Int) != (n : Int)) = false := by simp
    go_wp2_with fail
    go_loopw [8] (fun i wr => ∃ k : Nat, k ≤ n ∧ i = .int .i64 k ∧ Chg [] w2 wr ∧ ∀ j, j < k → ts[j]? = ys[j]?) (fun i _ => n - (intOf i).toNat)
    case atStart => exact ⟨0, by omega, rfl, Chg.refl _ _, fun j hj => by omega⟩
    case round =>
      obtain ⟨k, hk, rfl, hc, hall⟩ := hrel
      have HALL := Lib.hid hall
      have HC2 := Lib.hid hc
      clear hall
      by_cases hlt : k < n
      · obtain ⟨b, o, rfl⟩ := HA2.out.addr (by omega)
        obtain ⟨b', o', rfl⟩ := HB.out.addr (by omega)
        obtain ⟨y, hy⟩ : ∃ y, ts[k]? = some y := ⟨ts[k]'(by rw [HN.out]; exact hlt), List.getElem?_eq_getElem _⟩
        obtain ⟨y', hy'⟩ : ∃ y, ys[k]? = some y := ⟨ys[k]'(by rw [HMM.out]; exact hlt), List.getElem?_eq_getElem _⟩
        obtain ⟨cs, t, f, hb, a1, a2⟩ := slt_whole2 HA2.out hc (by simp) hlt hy
        obtain ⟨cs', t', f', hb', b1, b2⟩ := slt_whole2 HB.out hc (by simp) hlt hy'
        have g1 : (k : Int) < (n : Int) := by omega
        have g0 : (0 : Int) ≤ (k : Int) := by omega
        have HY := Lib.hid hy
        have HY' := Lib.hid hy'
        have he := slt_eq y y'
        clear hy hy' hc
        by_cases heq : eqS y y' = true
        · go_wp2_with fail
          go_quiet (fail)
          go_wp2_with fail
          go_roundw
          case rel =>
            refine ⟨k + 1, by omega, by go_num, HC2.out.drewN _, fun j hj => ?_⟩
            by_cases hjk : j = k
            · subst hjk; rw [HY.out, HY'.out, (eqS_iff _ _).1 heq]
            · exact HALL.out j (by omega)
          case measure => simp [intOf]; omega
        · have heq' : eqS y y' = false := by simpa using heq
          clear heq
          go_wp2_with fail
          go_quiet (fail)
          go_wp2_with fail
          go_ret
          exact ⟨rfl, HC.out.trans (HC2.out.drewN _)⟩
      · exfalso
        obtain rfl : k = n := by omega
        apply HNE.out
        apply List.ext_getElem?
        intro j
        by_cases hj : j < k
        · exact (HALL.out j hj).symm
        · rw [List.getElem?_eq_none (by rw [HMM.out]; omega), List.getElem?_eq_none (by rw [HN.out]; omega)]
  · have tn : ((n : Int) != (m : Int)) = true := by simp; omega
    go_wp2_with fail
    go_ret
    exact ⟨rfl, HC.out⟩
end Go.Proofs.YtadeoflkppiflaaGreatDoor
end
section
namespace Go.Proofs.YtadeoflkppiflaaGreatDoor
open Go.RowKit
set_option linter.unusedVariables false
set_option maxRecDepth 100000
set_option maxHeartbeats 2000000 in
theorem rgood_0 (c0 c1 c2 c3 c4 c5 c6 : Int) (w : World) (h : ¬ (1 ≤ c0 ∧ c0 ≤ 8)) : Calls Tryz.prog 17 #[.agg #[.int .i64 c0, .int .i64 c1, .int .i64 c2, .int .i64 c3, .int .i64 c4, .int .i64 c5, .int .i64 c6]] w fun e w' => e = .returned (.bool false) ∧ w' = w.alloc (.cells #[.int .i64 c0, .int .i64 c1, .int .i64 c2, .int .i64 c3, .int .i64 c4, .int .i64 c5, .int .i64 c6] 23) := by
  by_cases h7 : 1 ≤ c0
  · have h8 : decide (c0 ≤ 8) = false := by simp; omega
    clear h
    go_enter Tryz.func17, Tryz.ntmps17
    dsimp only [List.append]
    go_wp2
    go_ret
    exact ⟨rfl, rfl⟩
  · have h8 : decide (1 ≤ c0) = false := by simp; omega
    clear h h7
    go_enter Tryz.func17, Tryz.ntmps17
    dsimp only [List.append]
    go_wp2
    go_ret
    exact ⟨rfl, rfl⟩
set_option maxHeartbeats 2000000 in
theorem rgood_1 (c0 c1 c2 c3 c4 c5 c6 : Int) (w : World) (p0 : 1 ≤ c0) (q0 : c0 ≤ 8) (h : ¬ (2 ≤ c1 ∧ c1 ≤ 64)) : Calls Tryz.prog 17 #[.agg #[.int .i64 c0, .int .i64 c1, .int .i64 c2, .int .i64 c3, .int .i64 c4, .int .i64 c5, .int .i64 c6]] w fun e w' => e = .returned (.bool false) ∧ w' = w.alloc (.cells #[.int .i64 c0, .int .i64 c1, .int .i64 c2, .int .i64 c3, .int .i64 c4, .int .i64 c5, .int .i64 c6] 23) := by
  by_cases h7 : 2 ≤ c1
  · have h8 : decide (c1 ≤ 64) = false := by simp; omega
    clear h
    go_enter Tryz.func17, Tryz.ntmps17
    dsimp only [List.append]
    go_wp2
    go_ret
    exact ⟨rfl, rfl⟩
  · have h8 : decide (2 ≤ c1) = false := by simp; omega
    clear h h7
    go_enter Tryz.func17, Tryz.ntmps17
    dsimp only [List.append]
    go_wp2
    go_ret
    exact ⟨rfl, rfl⟩
set_option maxHeartbeats 2000000 in
theorem rgood_2 (c0 c1 c2 c3 c4 c5 c6 : Int) (w : World) (p0 : 1 ≤ c0) (q0 : c0 ≤ 8) (p1 : 2 ≤ c1) (q1 : c1 ≤ 64) (h : ¬ (1 ≤ c2 ∧ c2 ≤ c1 - 1)) : Calls Tryz.prog 17 #[.agg #[.int .i64 c0, .int .i64 c1, .int .i64 c2, .int .i64 c3, .int .i64 c4, .int .i64 c5, .int .i64 c6]] w fun e w' => e = .returned (.bool false) ∧ w' = w.alloc (.cells #[.int .i64 c0, .int .i64 c1, .int .i64 c2, .int .i64 c3, .int .i64 c4, .int .i64 c5, .int .i64 c6] 23) := by
  by_cases h7 : 1 ≤ c2
  · have h8 : decide (c2 < c1) = false := by simp; omega
    clear h
    go_enter Tryz.func17, Tryz.ntmps17
    dsimp only [List.append]
    go_wp2
    go_ret
    exact ⟨rfl, rfl⟩
  · have h8 : decide (1 ≤ c2) = false := by simp; omega
    clear h h7
    go_enter Tryz.func17, Tryz.ntmps17
    dsimp only [List.append]
    go_wp2
    go_ret
    exact ⟨rfl, rfl⟩
set_option maxHeartbeats 2000000 in
theorem wdrgood_3 (c0 c1 c2 c3 c4 c5 c6 : Int) (w : World) (p0 : 1 ≤ c0) (q0 : c0 ≤ 8) (p1 : 2 ≤ c1) (q1 : c1 ≤ 64) (p2 : 1 ≤ c2) (q2 : c2 ≤ c1 - 1) (h : ¬ (c3 = 1 ∨ c3 = 2 ∨ c3 = 4 ∨ c3 = 8)) : Calls Tryz.prog 17 #[.agg #[.int .i64 c0, .int .i64 c1, .int .i64 c2, .int .i64 c3, .int .i64 c4, .int .i64 c5, .int .i64 c6]] w fun e w' => e = .returned (.bool false) ∧ w' = w.alloc (.cells #[.int .i64 c0, .int .i64 c1, .int .i64 c2, .int .i64 c3, .int .i64 c4, .int .i64 c5, .int .i64 c6] 23) := by
  have q2' : c2 < c1 := by omega
  clear q2
  have e1 : (c3 == 1) = false := by simp; omega
  have e2 : (c3 == 2) = false := by simp; omega
  have e4 : (c3 == 4) = false := by simp; omega
  have e8 : (c3 == 8) = false := by simp; omega
  clear h
  go_enter Tryz.func17, Tryz.ntmps17
  dsimp only [List.append]
  go_wp2
  go_ret
  exact ⟨rfl, rfl⟩
set_option maxHeartbeats 2000000 in
theorem rgood_4 (c0 c1 c2 c3 c4 c5 c6 : Int) (w : World) (p0 : 1 ≤ c0) (q0 : c0 ≤ 8) (p1 : 2 ≤ c1) (q1 : c1 ≤ 64) (p2 : 1 ≤ c2) (q2 : c2 ≤ c1 - 1) (s : c3 = 1 ∨ c3 = 2 ∨ c3 = 4 ∨ c3 = 8) (h : ¬ (1 ≤ c4 ∧ c4 ≤ 8)) : Calls Tryz.prog 17 #[.agg #[.int .i64 c0, .int .i64 c1, .int .i64 c2, .int .i64 c3, .int .i64 c4, .int .i64 c5, .int .i64 c6]] w fun e w' => e = .returned (.bool false) ∧ w' = w.alloc (.cells #[.int .i64 c0, .int .i64 c1, .int .i64 c2, .int .i64 c3, .int .i64 c4, .int .i64 c5, .int .i64 c6] 23) := by
  have q2' : c2 < c1 := by omega
  clear q2
  obtain rfl | rfl | rfl | rfl := s
  all_goals
    by_cases h7 : 1 ≤ c4
    · have h8 : decide (c4 ≤ 8) = false := by simp; omega
      clear h
      go_enter Tryz.func17, Tryz.ntmps17
      dsimp only [List.append]
      go_wp2
      go_ret
      exact ⟨rfl, rfl⟩
    · have h8 : decide (1 ≤ c4) = false := by simp; omega
      clear h h7
      go_enter Tryz.func17, Tryz.ntmps17
      dsimp only [List.append]
      go_wp2
      go_ret
      exact ⟨rfl, rfl⟩
set_option maxHeartbeats 2000000 in
theorem rgood_5 (c0 c1 c2 c3 c4 c5 c6 : Int) (w : World) (p0 : 1 ≤ c0) (q0 : c0 ≤ 8) (p1 : 2 ≤ c1) (q1 : c1 ≤ 64) (p2 : 1 ≤ c2) (q2 : c2 ≤ c1 - 1) (s : c3 = 1 ∨ c3 = 2 ∨ c3 = 4 ∨ c3 = 8) (p4 : 1 ≤ c4) (q4 : c4 ≤ 8) (h : ¬ (1 ≤ c5 ∧ c5 ≤ 16)) : Calls Tryz.prog 17 #[.agg #[.int .i64 c0, .int .i64 c1, .int .i64 c2, .int .i64 c3, .int .i64 c4, .int .i64 c5, .int .i64 c6]] w fun e w' => e = .returned (.bool false) ∧ w' = w.alloc (.cells #[.int .i64 c0, .int .i64 c1, .int .i64 c2, .int .i64 c3, .int .i64 c4, .int .i64 c5, .int .i64 c6] 23) := by
  have q2' : c2 < c1 := by omega
  clear q2
  obtain rfl | rfl | rfl | rfl := s
  all_goals
    by_cases h7 : 1 ≤ c5
    · have h8 : decide (c5 ≤ 16) = false := by simp; omega
      clear h
      go_enter Tryz.func17, Tryz.ntmps17
      dsimp only [List.append]
      go_wp2
      go_ret
      exact ⟨rfl, rfl⟩
    · have h8 : decide (1 ≤ c5) = false := by simp; omega
      clear h h7
      go_enter Tryz.func17, Tryz.ntmps17
      dsimp only [List.append]
      go_wp2
      go_ret
      exact ⟨rfl, rfl⟩
set_option maxHeartbeats 2000000 in
theorem wdrgood_6 (c0 c1 c2 c3 c4 c5 c6 : Int) (w : World) (p0 : 1 ≤ c0) (q0 : c0 ≤ 8) (p1 : 2 ≤ c1) (q1 : c1 ≤ 64) (p2 : 1 ≤ c2) (q2 : c2 ≤ c1 - 1) (s : c3 = 1 ∨ c3 = 2 ∨ c3 = 4 ∨ c3 = 8) (p4 : 1 ≤ c4) (q4 : c4 ≤ 8) (p5 : 1 ≤ c5) (q5 : c5 ≤ 16) (h : ¬ (1 ≤ c6 ∧ c6 ≤ 16)) : Calls Tryz.prog 17 #[.agg #[.int .i64 c0, .int .i64 c1, .int .i64 c2, .int .i64 c3, .int .i64 c4, .int .i64 c5, .int .i64 c6]] w fun e w' => e = .returned (.bool false) ∧ w' = w.alloc (.cells #[.int .i64 c0, .int .i64 c1, .int .i64 c2, .int .i64 c3, .int .i64 c4, .int .i64 c5, .int .i64 c6] 23) := by
  have q2' : c2 < c1 := by omega
  clear q2
  obtain rfl | rfl | rfl | rfl := s
  all_goals
    by_cases h7 : 1 ≤ c6
    · have h8 : decide (c6 ≤ 16) = false := by simp; omega
      clear h
      go_enter Tryz.func17, Tryz.ntmps17
      dsimp only [List.append]
      go_wp2
      go_ret
      exact ⟨rfl, rfl⟩
    · have h8 : decide (1 ≤ c6) = false := by simp; omega
      clear h h7
      go_enter Tryz.func17, Tryz.ntmps17
      dsimp only [List.append]
      go_wp2
      go_ret
      exact ⟨rfl, rfl⟩
set_option maxHeartbeats 2000000 in
theorem wdrgood_7 (c0 c1 c2 c3 c4 c5 c6 : Int) (w : World) (p0 : 1 ≤ c0) (q0 : c0 ≤ 8) (p1 : 2 ≤ c1) (q1 : c1 ≤ 64) (p2 : 1 ≤ c2) (q2 : c2 ≤ c1 - 1) (s : c3 = 1 ∨ c3 = 2 ∨ c3 = 4 ∨ c3 = 8) (p4 : 1 ≤ c4) (q4 : c4 ≤ 8) (p5 : 1 ≤ c5) (q5 : c5 ≤ 16) (p6 : 1 ≤ c6) (q6 : c6 ≤ 16) : Calls Tryz.prog 17 #[.agg #[.int .i64 c0, .int .i64 c1, .int .i64 c2, .int .i64 c3, .int .i64 c4, .int .i64 c5, .int .i64 c6]] w fun e w' => e = .returned (.bool true) ∧ w' = w.alloc (.cells #[.int .i64 c0, .int .i64 c1, .int .i64 c2, .int .i64 c3, .int .i64 c4, .int .i64 c5, .int .i64 c6] 23) := by
  have q2' : c2 < c1 := by omega
  clear q2
  obtain rfl | rfl | rfl | rfl := s
  all_goals
    go_enter Tryz.func17, Tryz.ntmps17
    dsimp only [List.append]
    go_wp2
    go_ret
    exact ⟨rfl, rfl⟩
set_option maxHeartbeats 2000000 in
theorem wdrgood_any (c0 c1 c2 c3 c4 c5 c6 : Int) (w : World) : Calls Tryz.prog 17 #[.agg #[.int .i64 c0, .int .i64 c1, .int .i64 c2, .int .i64 c3, .int .i64 c4, .int .i64 c5, .int .i64 c6]] w fun e w' => e = .returned (.bool (goodB c0 c1 c2 c3 c4 c5 c6)) ∧ w' = w.alloc (.cells #[.int .i64 c0, .int .i64 c1, .int .i64 c2, .int .i64 c3, .int .i64 c4, .int .i64 c5, .int .i64 c6] 23) := by
  by_cases h0 : 1 ≤ c0 ∧ c0 ≤ 8
  rotate_left
  · have e : goodB c0 c1 c2 c3 c4 c5 c6 = false := by unfold goodB; simp only [decide_eq_false_iff_not]; omega
    rw [e]; exact rgood_0 c0 c1 c2 c3 c4 c5 c6 w h0
  by_cases h1 : 2 ≤ c1 ∧ c1 ≤ 64
  rotate_left
  · have e : goodB c0 c1 c2 c3 c4 c5 c6 = false := by unfold goodB; simp only [decide_eq_false_iff_not]; omega
    rw [e]; exact rgood_1 c0 c1 c2 c3 c4 c5 c6 w h0.1 h0.2 h1
  by_cases h2 : 1 ≤ c2 ∧ c2 ≤ c1 - 1
  rotate_left
  · have e : goodB c0 c1 c2 c3 c4 c5 c6 = false := by unfold goodB; simp only [decide_eq_false_iff_not]; omega
    rw [e]; exact rgood_2 c0 c1 c2 c3 c4 c5 c6 w h0.1 h0.2 h1.1 h1.2 h2
  by_cases h3 : c3 = 1 ∨ c3 = 2 ∨ c3 = 4 ∨ c3 = 8
  rotate_left
  · have e : goodB c0 c1 c2 c3 c4 c5 c6 = false := by unfold goodB; simp only [decide_eq_false_iff_not]; omega
    rw [e]; exact wdrgood_3 c0 c1 c2 c3 c4 c5 c6 w h0.1 h0.2 h1.1 h1.2 h2.1 h2.2 h3
  by_cases h4 : 1 ≤ c4 ∧ c4 ≤ 8
  rotate_left
  · have e : goodB c0 c1 c2 c3 c4 c5 c6 = false := by unfold goodB; simp only [decide_eq_false_iff_not]; omega
    rw [e]; exact rgood_4 c0 c1 c2 c3 c4 c5 c6 w h0.1 h0.2 h1.1 h1.2 h2.1 h2.2 h3 h4
  by_cases h5 : 1 ≤ c5 ∧ c5 ≤ 16
  rotate_left
  · have e : goodB c0 c1 c2 c3 c4 c5 c6 = false := by unfold goodB; simp only [decide_eq_false_iff_not]; omega
    rw [e]; exact rgood_5 c0 c1 c2 c3 c4 c5 c6 w h0.1 h0.2 h1.1 h1.2 h2.1 h2.2 h3 h4.1 h4.2 h5
  by_cases h6 : 1 ≤ c6 ∧ c6 ≤ 16
  rotate_left
  · have e : goodB c0 c1 c2 c3 c4 c5 c6 = false := by unfold goodB; simp only [decide_eq_false_iff_not]; omega
    rw [e]; exact wdrgood_6 c0 c1 c2 c3 c4 c5 c6 w h0.1 h0.2 h1.1 h1.2 h2.1 h2.2 h3 h4.1 h4.2 h5.1 h5.2 h6
  have e : goodB c0 c1 c2 c3 c4 c5 c6 = true := by unfold goodB; simp only [decide_eq_true_eq]; omega
  rw [e]; exact wdrgood_7 c0 c1 c2 c3 c4 c5 c6 w h0.1 h0.2 h1.1 h1.2 h2.1 h2.2 h3 h4.1 h4.2 h5.1 h5.2 h6.1 h6.2
end Go.Proofs.YtadeoflkppiflaaGreatDoor
end
