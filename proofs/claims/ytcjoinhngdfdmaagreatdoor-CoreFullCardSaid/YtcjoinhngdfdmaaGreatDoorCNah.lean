/- Texts of the walk, one behind the other: Dirc Dire Mfa Mfb Mfd Mfg Prd Mfh. No condition. -/
import Derived.Test.YtcjoinhngdfdmaaGreatDoorCNad
import Derived.Test.YtcjoinhngdfdmaaGreatDoorCNaf
import Derived.Test.YtcjoinhngdfdmaaGreatDoorCNag
import Derived.BigQuiet
import Derived.ChangeKeysEq
import Derived.Deep.Cut
import Derived.Deep.CutBlock
import Derived.Deep.CutRange
import Derived.Deep.DeepCutAuto
import Derived.Deep.QuietTactic
import Derived.Deep.RegionHeld3
import Derived.Deep.RegionWith
import Derived.Laws.StructEq
section
namespace Go.Proofs.YtcjoinhngdfdmaaGreatDoor
open Go.RowKit
set_option linter.unusedVariables false
set_option maxHeartbeats 1000000
set_option maxRecDepth 100000
attribute [local go_sem ↓] append_appS copy_copS clear_clrS make_mkS slice_slS cell_row frozen_row loadLine storeLine loadMsg storeMsg heap_drew heap_drewN heap_alloc heap_past heap_setCell heap_putRow vs_get msc_kd msc_li msc_di msc_ke
attribute [local go_sem] rowCell_some rowFrozen_some rowHas_some rowIn_some rowPart_full rowPart_lit rowPut_full rowPut_lit rowSet_some size_putRow vs_size vs_one wideLine wideMsg run_loadS run_storeS run_appS run_copS run_clrS run_mkS run_slS loadW_at storeW_at fit_all fit_le one_int one_bool one_pointer one_slice allOne_list putRow_new ne_size1 ne_size2 ne_size3 ne_size4 zero8_length line_eq lit8 msc_size msc_one msc_part msc_in fold_msc
attribute [local simp ↓] heap_drew heap_drewN heap_alloc heap_past heap_setCell heap_putRow
attribute [local simp] rowCell_some rowFrozen_some rowHas_some rowIn_some rowPart_full rowPart_lit rowPut_full rowPut_lit rowSet_some size_putRow vs_size fit_all putRow_new ne_size1 ne_size2 ne_size3 ne_size4 zero8_length msc_size
attribute [local go_sem ↓] ec_he ec_di ec_ow ec_sh ec_bu ec_by ec_wa sc_to
attribute [local go_sem] mi_and mi_or mi_not mi_beq0 mi_bne0 ec_size ec_one ec_part ec_in ec_has ec_setDi ec_setOw ec_setSh ec_setBu ec_setBy ec_setWa ec_setSh0 ec_setWa0 ec_putM sc_size sc_one sc_part sc_in
attribute [local simp] ec_size sc_size ec_setDi ec_setOw ec_setSh ec_setBu ec_setBy ec_setWa ec_setSh0 ec_setWa0 ec_putM
attribute [local go_sem ↓] loadEn storeEn loadSd storeSd en_z0
attribute [local go_sem] wideEn wideSd fold_sc size11 putRow_newB putRow_newC ms5_lit
attribute [local simp] en_z0 putRow_newB putRow_newC fit_le ec_has


theorem dempty_any (w : World) : Calls Tryz.prog 73 #[] w fun e w' => e = .returned (.agg (ec enE)) ∧ Chg [] w w' := by
  go_enter Tryz.func73, Tryz.ntmps73
  try dsimp only [List.append]
  go_wp2
  refine bodyPost_ret (v := .agg (ec enE)) ?_ (by rfl) ?_
  · exact results_en1 (by rfl) _ _ (w.heap.size) enE (0, 0) (by rfl) (by simp; rfl)
  exact ⟨rfl, by (repeat' (first | with_reducible exact Chg.refl _ _ | with_reducible assumption | with_reducible refine Chg.drew ?_ | with_reducible refine Chg.drewN ?_ _ | with_reducible refine Chg.alloc ?_ _ | with_reducible refine Chg.putRow ?_ _ _ _ (.inr ?_) | with_reducible refine Chg.setCell ?_ _ _ _ (.inr ?_)  | (show _ ≤ _; first | exact Nat.le_refl _ | omega | (simp; done))))⟩
/-! ### '==' of entries -/
def eqE (a b : En) : Bool := a.he == b.he && (a.di == b.di && (a.l == b.l && (a.ow == b.ow && (a.sh == b.sh && (a.bu == b.bu && (a.by_ == b.by_ && a.wa == b.wa))))))
theorem eqE_iff (a b : En) : eqE a b = decide (a = b) := by
  rw [Bool.eq_iff_iff, decide_eq_true_eq]
  simp only [eqE, Bool.and_eq_true, beq_iff_eq]
  constructor
  · rintro ⟨h1, h2, h3, h4, h5, h6, h7, h8⟩; exact En.same h1 h2 h3 h4 h5 h6 h7 h8
  · rintro rfl; exact ⟨rfl, rfl, rfl, rfl, rfl, rfl, rfl, rfl⟩
theorem line_partE (e : En) (w : World) : (part 48 (ec e) 2).run Tryz.prog w = .ok (.agg (vs e.l)) w := by
  obtain ⟨i, hi⟩ : ∃ i, Tryz.prog.info? 48 = some i := Option.isSome_iff_exists.1 (by kernel_rfl)
  have hc : Tryz.prog.cellsOf 48 = 8 := by kernel_rfl
  have he : (ec e).extract 2 (2 + 8) = vs e.l := by
    obtain ⟨he, di, l, ow, sh, bu, by_, wa, h⟩ := e
    obtain ⟨a0, a1, a2, a3, a4, a5, a6, a7, rfl⟩ := eight h
    rfl
  simp [part, isAgg, run_underlying Tryz.underlying48, he]

theorem run_ite' {P : Program} {α : Type} (c : Prop) [Decidable c] (x y : Sem α) (w : World) : (if c then x else y).run P w = if c then x.run P w else y.run P w := by split <;> rfl

theorem en_eq (a b : En) (w : World) : (Op.equalIn 10000 129 (.agg (ec a)) (.agg (ec b))).run Tryz.prog w = .ok (decide (a = b)) w := by
  have p := fun (x : En) => run_part_plain (P := Tryz.prog) w (e := 4) (by kernel_rfl) (ec_he x)
  have q := fun (x : En) => run_part_plain (P := Tryz.prog) w (e := 4) (by kernel_rfl) (ec_di x)
  have r := fun (x : En) => run_part_plain (P := Tryz.prog) w (e := 3) (by kernel_rfl) (ec_ow x)
  have s := fun (x : En) => run_part_plain (P := Tryz.prog) w (e := 5) (by kernel_rfl) (ec_sh x)
  have t := fun (x : En) => run_part_plain (P := Tryz.prog) w (e := 3) (by kernel_rfl) (ec_bu x)
  have u := fun (x : En) => run_part_plain (P := Tryz.prog) w (e := 3) (by kernel_rfl) (ec_by x)
  have v := fun (x : En) => run_part_plain (P := Tryz.prog) w (e := 5) (by kernel_rfl) (ec_wa x)
  have l := fun (x : En) => line_partE x w
  have e0 := fun a b => run_equalIn_int w 9998 3 .i64 .i64 a b Tryz.underlying3
  have e8 := fun a b => run_equalIn_int w 9998 5 .u8 .u8 a b Tryz.underlying5
  have e1 := fun a b => run_equalIn_bool w 9998 4 a b Tryz.underlying4
  have e2 : (Op.equalIn 9999 48 (.agg (vs a.l)) (.agg (vs b.l))).run Tryz.prog w = .ok (a.l == b.l) w := by
    obtain ⟨i0, hi0⟩ : ∃ i, Tryz.prog.info? 43 = some i := Option.isSome_iff_exists.1 (by kernel_rfl)
    rw [run_equalIn_array w 9998 _ _ Tryz.underlying48 hi0, show Tryz.prog.cellsOf 43 = 1 by kernel_rfl]
    have := eqItems_ints (P := Tryz.prog) w 9997 (k := .u64) Tryz.underlying43 (by kernel_rfl) a.l b.l (List.range 8) (by intro i hi; have := a.h; have := b.h; simp at hi; omega)
    unfold vs
    rw [this]
    congr 1
    rw [Bool.eq_iff_iff]
    simp only [List.all_eq_true, List.mem_range, beq_iff_eq]
    constructor
    · intro h
      apply List.ext_getElem (by rw [a.h, b.h])
      intro j h1 h2
      have := h j (by rw [a.h] at h1; exact h1)
      simpa [h1, h2] using this
    · intro h j _; rw [h]
  rw [← eqE_iff, run_equalIn_struct w 9999 129 _ _ (by simp only [Program.fieldsOf, Tryz.underlying129]) (by kernel_rfl)]
  simp only [Program.fieldsOf, Tryz.underlying129]
  unfold eqE
  simp only [← mi_beq]
  simp only [Op.eqFields, ne_eq, String.reduceEq, not_false_eq_true, ↓reduceIte, Sem.run_bind, p, q, r, s, t, u, v, l, e0, e8, e1, e2, Result.andThen_ok, run_ite', Bool.not_eq_true']
  generalize (a.he == b.he) = x1
  generalize (a.di == b.di) = x2
  generalize (a.l == b.l) = x3
  generalize (a.ow == b.ow) = x4
  generalize (mi a.sh == mi b.sh) = x5
  generalize (a.bu == b.bu) = x6
  generalize (a.by_ == b.by_) = x7
  generalize (mi a.wa == mi b.wa) = x8
  clear p q r s t u v l e0 e8 e1 e2
  cases x1
  · simp
  cases x2
  · simp
  cases x3
  · simp
  cases x4
  · simp
  cases x5
  · simp
  cases x6
  · simp
  cases x7
  · simp
  cases x8 <;> simp

theorem calls_aftC {P : Program} {f : FuncId} {args : Array Value} {N : Nat} {W : World} {x : Aft N W} {v : Value} (hN : N ≤ W.heap.size)
    (h : Calls P f args x.w fun e w' => e = .returned v ∧ Chg [] x.w w') : Calls P f args x.w fun e w'' => e = .returned v ∧ ∃ y : Aft N W, w'' = y.w :=
  calls_aft hN (h.mono fun _ _ ⟨he, hc⟩ => ⟨he, hc.below (Nat.le_refl _) (by simp)⟩)
/-! ### What is good -/
attribute [local go_sem ↓] en_eq
end Go.Proofs.YtcjoinhngdfdmaaGreatDoor
end
section
namespace Go.Proofs.YtcjoinhngdfdmaaGreatDoor
open Go.RowKit
set_option linter.unusedVariables false
set_option maxHeartbeats 1000000
set_option maxRecDepth 100000
attribute [local go_sem ↓] append_appS copy_copS clear_clrS make_mkS slice_slS cell_row frozen_row loadLine storeLine loadMsg storeMsg heap_drew heap_drewN heap_alloc heap_past heap_setCell heap_putRow vs_get msc_kd msc_li msc_di msc_ke
attribute [local go_sem] rowCell_some rowFrozen_some rowHas_some rowIn_some rowPart_full rowPart_lit rowPut_full rowPut_lit rowSet_some size_putRow vs_size vs_one wideLine wideMsg run_loadS run_storeS run_appS run_copS run_clrS run_mkS run_slS loadW_at storeW_at fit_all fit_le one_int one_bool one_pointer one_slice allOne_list putRow_new ne_size1 ne_size2 ne_size3 ne_size4 zero8_length line_eq lit8 msc_size msc_one msc_part msc_in fold_msc
attribute [local simp ↓] heap_drew heap_drewN heap_alloc heap_past heap_setCell heap_putRow
attribute [local simp] rowCell_some rowFrozen_some rowHas_some rowIn_some rowPart_full rowPart_lit rowPut_full rowPut_lit rowSet_some size_putRow vs_size fit_all putRow_new ne_size1 ne_size2 ne_size3 ne_size4 zero8_length msc_size
attribute [local go_sem ↓] ec_he ec_di ec_ow ec_sh ec_bu ec_by ec_wa sc_to
attribute [local go_sem] mi_and mi_or mi_not mi_beq0 mi_bne0 ec_size ec_one ec_part ec_in ec_has ec_setDi ec_setOw ec_setSh ec_setBu ec_setBy ec_setWa ec_setSh0 ec_setWa0 ec_putM sc_size sc_one sc_part sc_in
attribute [local simp] ec_size sc_size ec_setDi ec_setOw ec_setSh ec_setBu ec_setBy ec_setWa ec_setSh0 ec_setWa0 ec_putM
attribute [local go_sem ↓] loadEn storeEn loadSd storeSd en_z0
attribute [local go_sem] wideEn wideSd fold_sc size11 putRow_newB putRow_newC ms5_lit
attribute [local simp] en_z0 putRow_newB putRow_newC fit_le ec_has


theorem wideDd : Wide Tryz.prog 196 6 := ⟨⟨_, Tryz.underlying196, by rfl⟩, by kernel_rfl⟩
theorem loadDd (x : Value) : Instr.loadAt 196 x = loadS 196 6 x := rfl
theorem storeDd (x y : Value) : Instr.storeAt 196 x y = storeS 196 6 x y := rfl
/-- What each kind of request does. -/
def ddv : Array Value := #[.nilFunc, .func (.func 148) #[] #[], .func (.func 149) #[] #[], .func (.func 150) #[] #[], .func (.func 151) #[] #[], .func (.func 152) #[] #[]]
theorem ddv_one : allOne ddv := allOne_list [.nilFunc, .func (.func 148) #[] #[], .func (.func 149) #[] #[], .func (.func 150) #[] #[], .func (.func 151) #[] #[], .func (.func 152) #[] #[]] rfl
theorem ddv_lit : (#[.nilFunc, .func (.func 148) #[] #[], .func (.func 149) #[] #[], .func (.func 150) #[] #[], .func (.func 151) #[] #[], .func (.func 152) #[] #[]] : Array Value) = ddv := rfl
attribute [local go_sem ↓] loadDd storeDd ddv_lit
attribute [local go_sem] wideDd ddv_one
/-- An entry, what is told, and a number. -/
def En3 (w : World) (r : (En × List Sd) × Int) : Ending → World → Prop := fun e w' => ∃ A c, e = .returned (.tuple #[.agg (ec r.1.1), .slice A r.1.2.length c, .int .i64 r.2]) ∧ Sl w' 13 A r.1.2.length (cat Sd.enc r.1.2) ∧ (∀ a, A = some a → w.heap.size ≤ a.block) ∧ Chg [] w w'
theorem En3.of (w w1 w' w2 : World) (r : En × List Sd) (n : Int) (A2 : Option Addr) (c2 : Nat) (hs : Sl w2 13 A2 r.2.length (cat Sd.enc r.2)) (hA : ∀ a, A2 = some a → w1.heap.size ≤ a.block) (hw : Chg [] w w1) (hk : ∀ a, A2 = some a → a.block ∉ ([] : List Nat)) (h : Chg [] w w') (hs' : Sl w' 13 A2 r.2.length (cat Sd.enc r.2)) :
    En3 w (r, n) (.returned (.tuple #[.agg (ec r.1), .slice A2 r.2.length c2, .int .i64 n])) w' := ⟨A2, c2, rfl, hs', fun a ha => Nat.le_trans hw.size (hA a ha), h⟩

end Go.Proofs.YtcjoinhngdfdmaaGreatDoor
end
section
namespace Go.Proofs.YtcjoinhngdfdmaaGreatDoor
open Go.RowKit
set_option linter.unusedVariables false
set_option maxHeartbeats 1000000
set_option maxRecDepth 100000
attribute [local go_sem ↓] append_appS copy_copS clear_clrS make_mkS cell_row frozen_row loadLine storeLine loadSlot storeSlot heap_drew heap_drewN heap_alloc heap_past heap_setCell heap_putRow vs_get slc_st slc_li slc_us slice_slS loadMsg storeMsg loadHas storeHas msc_kd msc_li msc_di msc_ke
attribute [local go_sem] rowCell_some rowFrozen_some rowHas_some rowIn_some rowPart_full rowPart_lit rowPut_full rowPut_lit rowSet_some size_putRow vs_size vs_one wideLine wideSlot run_loadS run_storeS run_appS run_copS run_clrS run_mkS loadW_at storeW_at fit_all fit_le one_int one_bool one_pointer one_slice allOne_list putRow_new ne_size1 ne_size2 ne_size3 ne_size4 zero8_length lines_nil line_eq lit8 slc_size slc_one slc_part slc_in fold_slt fold_slc slc_set_us wideMsg wideHas run_slS msc_size msc_one msc_part msc_in fold_msc msc_putDi msc_putKe msc_putX msc_has ms4_lit
attribute [local simp ↓] heap_drew heap_drewN heap_alloc heap_past heap_setCell heap_putRow
attribute [local simp] rowCell_some rowFrozen_some rowHas_some rowIn_some rowPart_full rowPart_lit rowPut_full rowPut_lit rowSet_some size_putRow vs_size fit_all putRow_new ne_size1 ne_size2 ne_size3 ne_size4 zero8_length slc_size msc_size msc_putDi msc_putKe msc_putX msc_has fit_le
attribute [local go_sem ↓] ec_he ec_di ec_ow ec_sh ec_bu ec_by ec_wa sc_to
attribute [local go_sem] mi_and mi_or mi_not mi_beq0 mi_bne0 ec_size ec_one ec_part ec_in ec_has ec_setDi ec_setOw ec_setSh ec_setBu ec_setBy ec_setWa ec_setSh0 ec_setWa0 ec_putM sc_size sc_one sc_part sc_in
attribute [local simp] ec_size sc_size ec_setDi ec_setOw ec_setSh ec_setBu ec_setBy ec_setWa ec_setSh0 ec_setWa0 ec_putM
attribute [local go_sem ↓] loadEn storeEn loadSd storeSd en_z0
attribute [local go_sem] wideEn wideSd fold_sc size11 putRow_newB putRow_newC ms5_lit
attribute [local simp] en_z0 putRow_newB putRow_newC fit_le ec_has



attribute [local go_sem ↓] mlitZ zenc_po zenc_en zenc_q
attribute [local simp] mlitZ

theorem ec_setHe' (e : En) (b : Bool) : (ec e).setIfInBounds 0 (.bool b) = ec (e.setHe b) := by simp [ec, En.enc, En.tail, En.setHe]
attribute [local go_sem] ec_setHe'
attribute [local simp] ec_setHe'
theorem MTo.loc {W w w1 w2 : World} {c : Cg} {z z' : Lay} {L L' : List (Po × Pt)} {en : List En} {es : List Ent} {xs : List Int} (h : MTo W w c z L z' L' en es xs w1) {l : List Nat} (hc : Chg l w1 w2) (hl : ∀ k ∈ l, W.heap.size ≤ k ∧ w.heap.size ≤ k ∧ k ∉ z'.all L') : MTo W w c z L z' L' en es xs w2 :=
  ⟨h.1.keepL hc (fun k hk => (hl k hk).2.2) (fun k hk => (hl k hk).1), h.2.1.trans' hc (fun k hk => .inr (hl k hk).2.1), h.2.2⟩
section
variable {W : World} {c : Cg} {z : Lay} {L : List (Po × Pt)} {en : List En} {es : List Ent} {xs : List Int}
end
end Go.Proofs.YtcjoinhngdfdmaaGreatDoor
end
section
namespace Go.Proofs.YtcjoinhngdfdmaaGreatDoor
open Go.RowKit
set_option linter.unusedVariables false
set_option maxHeartbeats 1000000
set_option maxRecDepth 100000
attribute [local go_sem ↓] append_appS copy_copS clear_clrS make_mkS cell_row frozen_row loadLine storeLine loadSlot storeSlot heap_drew heap_drewN heap_alloc heap_past heap_setCell heap_putRow vs_get slc_st slc_li slc_us slice_slS loadMsg storeMsg loadHas storeHas msc_kd msc_li msc_di msc_ke
attribute [local go_sem] rowCell_some rowFrozen_some rowHas_some rowIn_some rowPart_full rowPart_lit rowPut_full rowPut_lit rowSet_some size_putRow vs_size vs_one wideLine wideSlot run_loadS run_storeS run_appS run_copS run_clrS run_mkS loadW_at storeW_at fit_all fit_le one_int one_bool one_pointer one_slice allOne_list putRow_new ne_size1 ne_size2 ne_size3 ne_size4 zero8_length lines_nil line_eq lit8 slc_size slc_one slc_part slc_in fold_slt fold_slc slc_set_us wideMsg wideHas run_slS msc_size msc_one msc_part msc_in fold_msc msc_putDi msc_putKe msc_putX msc_has ms4_lit
attribute [local simp ↓] heap_drew heap_drewN heap_alloc heap_past heap_setCell heap_putRow
attribute [local simp] rowCell_some rowFrozen_some rowHas_some rowIn_some rowPart_full rowPart_lit rowPut_full rowPut_lit rowSet_some size_putRow vs_size fit_all putRow_new ne_size1 ne_size2 ne_size3 ne_size4 zero8_length slc_size msc_size msc_putDi msc_putKe msc_putX msc_has fit_le
attribute [local go_sem ↓] ec_he ec_di ec_ow ec_sh ec_bu ec_by ec_wa sc_to
attribute [local go_sem] mi_and mi_or mi_not mi_beq0 mi_bne0 ec_size ec_one ec_part ec_in ec_has ec_setDi ec_setOw ec_setSh ec_setBu ec_setBy ec_setWa ec_setSh0 ec_setWa0 ec_putM sc_size sc_one sc_part sc_in
attribute [local simp] ec_size sc_size ec_setDi ec_setOw ec_setSh ec_setBu ec_setBy ec_setWa ec_setSh0 ec_setWa0 ec_putM
attribute [local go_sem ↓] loadEn storeEn loadSd storeSd en_z0
attribute [local go_sem] wideEn wideSd fold_sc size11 putRow_newB putRow_newC ms5_lit
attribute [local simp] en_z0 putRow_newB putRow_newC fit_le ec_has



attribute [local go_sem ↓] mlitZ zenc_po zenc_en zenc_q
attribute [local simp] mlitZ

section
variable {W : World} {c : Cg} {z : Lay} {L : List (Po × Pt)} {en : List En} {es : List Ent} {xs : List Int}
/-- Messages are sent down, one behind the other. -/
def sendTo (ps : List Pt) (d : Sd) : List Pt := match ps[d.to.toNat]? with
  | some x => ps.set d.to.toNat { x with dn := x.dn ++ [d.m] }
  | none => ps
def sendP (ps : List Pt) (l : List Sd) : List Pt := l.foldl sendTo ps
def ports (L : List (Po × Pt)) : List Pt := L.map (·.2)
theorem ports_set (L : List (Po × Pt)) (i : Nat) (y : Po × Pt) : ports (L.set i y) = (ports L).set i y.2 := by unfold ports; rw [List.map_set]
theorem ports_of {L : List (Po × Pt)} {i : Nat} {x : Pt} (h : (ports L)[i]? = some x) : ∃ p, L[i]? = some (p, x) := by
  unfold ports at h
  rw [List.getElem?_map] at h
  cases hl : L[i]? with
  | none => rw [hl] at h; cases h
  | some y => rw [hl] at h; obtain ⟨p, x'⟩ := y; cases h; exact ⟨p, rfl⟩
end
end Go.Proofs.YtcjoinhngdfdmaaGreatDoor
end
section
namespace Go.Proofs.YtcjoinhngdfdmaaGreatDoor
open Go.RowKit
set_option linter.unusedVariables false
set_option maxHeartbeats 1000000
set_option maxRecDepth 100000
attribute [local go_sem ↓] append_appS copy_copS clear_clrS make_mkS cell_row frozen_row loadLine storeLine loadSlot storeSlot heap_drew heap_drewN heap_alloc heap_past heap_setCell heap_putRow vs_get slc_st slc_li slc_us slice_slS loadMsg storeMsg loadHas storeHas msc_kd msc_li msc_di msc_ke
attribute [local go_sem] rowCell_some rowFrozen_some rowHas_some rowIn_some rowPart_full rowPart_lit rowPut_full rowPut_lit rowSet_some size_putRow vs_size vs_one wideLine wideSlot run_loadS run_storeS run_appS run_copS run_clrS run_mkS loadW_at storeW_at fit_all fit_le one_int one_bool one_pointer one_slice allOne_list putRow_new ne_size1 ne_size2 ne_size3 ne_size4 zero8_length lines_nil line_eq lit8 slc_size slc_one slc_part slc_in fold_slt fold_slc slc_set_us wideMsg wideHas run_slS msc_size msc_one msc_part msc_in fold_msc msc_putDi msc_putKe msc_putX msc_has ms4_lit
attribute [local simp ↓] heap_drew heap_drewN heap_alloc heap_past heap_setCell heap_putRow
attribute [local simp] rowCell_some rowFrozen_some rowHas_some rowIn_some rowPart_full rowPart_lit rowPut_full rowPut_lit rowSet_some size_putRow vs_size fit_all putRow_new ne_size1 ne_size2 ne_size3 ne_size4 zero8_length slc_size msc_size msc_putDi msc_putKe msc_putX msc_has fit_le
attribute [local go_sem ↓] ec_he ec_di ec_ow ec_sh ec_bu ec_by ec_wa sc_to
attribute [local go_sem] mi_and mi_or mi_not mi_beq0 mi_bne0 ec_size ec_one ec_part ec_in ec_has ec_setDi ec_setOw ec_setSh ec_setBu ec_setBy ec_setWa ec_setSh0 ec_setWa0 ec_putM sc_size sc_one sc_part sc_in
attribute [local simp] ec_size sc_size ec_setDi ec_setOw ec_setSh ec_setBu ec_setBy ec_setWa ec_setSh0 ec_setWa0 ec_putM
attribute [local go_sem ↓] loadEn storeEn loadSd storeSd en_z0
attribute [local go_sem] wideEn wideSd fold_sc size11 putRow_newB putRow_newC ms5_lit
attribute [local simp] en_z0 putRow_newB putRow_newC fit_le ec_has



attribute [local go_sem ↓] mlitZ zenc_po zenc_en zenc_q
attribute [local simp] mlitZ

section
variable {W : World} {c : Cg} {z : Lay} {L : List (Po × Pt)} {en : List En} {es : List Ent} {xs : List Int}
theorem new_blk (w : World) (o : Obj) : (w.alloc o).heap[w.heap.size]? = some o := by simp
/-- Behind a region that asks the directory: its answer lies in new memory. -/
def NewZ (W w : World) (c : Cg) (z z' : Lay) (L : List (Po × Pt)) (en : List En) (es : List Ent) (xs : List Int) (b3 : Nat) (m : Ms) (e' : En) (ds : List Sd) (v : Int) (p s y : Value) (wx : World) : Prop :=
  ∃ b8 A na, p = .pointer (some ⟨b8, 0, none⟩) ∧ s = .slice A ds.length na ∧ y = .int .i64 v ∧ wx.heap[b8]? = some (.cells (ec e') 129 (0, 0)) ∧ wx.heap[b3]? = some (.cells (msc m) 50 (0, 0)) ∧ Sl wx 13 A ds.length (cat Sd.enc ds) ∧
    (∀ a, A = some a → w.heap.size ≤ a.block ∧ a.block ∉ z'.all L) ∧ (w.heap.size ≤ b8 ∧ b8 ∉ z'.all L) ∧ b3 ∉ z'.all L ∧ MTo W w c z L z' L en es xs wx
section
variable {w w5 w6 : World} {z' : Lay} {b3 : Nat} {m : Ms} {e' : En} {ds : List Sd} {v : Int} {A : Option Addr} {na : Nat}
theorem NewZ.put {b8 : Nat} (hWw : W.heap.size ≤ w.heap.size) (n3 : b3 ∉ z'.all L) (P : MTo W w c z L z' L en es xs w6) (r8 : w6.heap[b8]? = some (.cells (ec enZ) 129 (0, 0))) (r3 : w6.heap[b3]? = some (.cells (msc m) 50 (0, 0))) (h8 : w.heap.size ≤ b8) (n8 : b8 ∉ z'.all L) (h38 : b8 ≠ b3)
    (hs : Sl w6 13 A ds.length (cat Sd.enc ds)) (hA : ∀ a, A = some a → w.heap.size ≤ a.block ∧ a.block ∉ z'.all L ∧ a.block ≠ b8) : NewZ W w c z z' L en es xs b3 m e' ds v (.pointer (some ⟨b8, 0, none⟩)) (.slice A ds.length na) (.int .i64 v) (putRow w6 b8 0 (ec e')) := by
  have hh : rowHas (w6.heap[b8]?) 0 (ec e').size = true := by rw [r8, rowHas_some, ec_size, ec_size]; decide
  have cp : Chg [b8] w6 (putRow w6 b8 0 (ec e')) := (Chg.refl [b8] w6).putRow b8 0 _ (.inl (by simp))
  refine ⟨b8, A, na, rfl, rfl, rfl, ?_, cp.keep r3 (by simpa using Ne.symm h38), hs.chg cp (fun a ha => by simpa using (hA a ha).2.2), fun a ha => ⟨(hA a ha).1, (hA a ha).2.1⟩, ⟨h8, n8⟩, n3, P.loc cp ?_⟩
  · rw [heap_putRow _ _ _ _ _ hh, if_pos rfl, r8, rowPut_full _ _ _ _ (by rw [ec_size, ec_size])]
  · intro k hk
    rw [List.mem_singleton] at hk
    subst hk
    exact ⟨Nat.le_trans hWw h8, h8, n8⟩
theorem NewZ.putC (hWw : W.heap.size ≤ w.heap.size) (n3 : b3 ∉ z'.all L) (P : MTo W w c z L z' L en es xs w5) (hc : Chg [] w5 w6) (r3 : w5.heap[b3]? = some (.cells (msc m) 50 (0, 0)))
    (hs : Sl w6 13 A ds.length (cat Sd.enc ds)) (hA : ∀ a, A = some a → w5.heap.size ≤ a.block) : NewZ W w c z z' L en es xs b3 m e' ds v (.pointer (some ⟨w6.heap.size, 0, none⟩)) (.slice A ds.length na) (.int .i64 v) (w6.alloc (.cells (ec e') 129)) := by
  have P6 := P.trans (P.1.stay hc)
  have ca := (Chg.refl [] w6).alloc (.cells (ec e') 129)
  refine ⟨w6.heap.size, A, na, rfl, rfl, rfl, by simp, ca.keep (hc.keep r3 (by simp)) (by simp), hs.chg ca (by simp), fun a ha => ?_, ⟨P6.2.1.size, fun hm => by have := P6.1.old _ hm; omega⟩, n3, P6.trans (P6.1.stay ca)⟩
  have h1 := hA a ha
  exact ⟨Nat.le_trans P.2.1.size h1, fun hm => by have := P.1.old _ hm; omega⟩
end
end
end Go.Proofs.YtcjoinhngdfdmaaGreatDoor
end
section
namespace Go.Proofs.YtcjoinhngdfdmaaGreatDoor
open Go.RowKit
set_option linter.unusedVariables false
set_option maxHeartbeats 1000000
set_option maxRecDepth 100000
attribute [local go_sem ↓] append_appS copy_copS clear_clrS make_mkS cell_row frozen_row loadLine storeLine loadSlot storeSlot heap_drew heap_drewN heap_alloc heap_past heap_setCell heap_putRow vs_get slc_st slc_li slc_us slice_slS loadMsg storeMsg loadHas storeHas msc_kd msc_li msc_di msc_ke
attribute [local go_sem] rowCell_some rowFrozen_some rowHas_some rowIn_some rowPart_full rowPart_lit rowPut_full rowPut_lit rowSet_some size_putRow vs_size vs_one wideLine wideSlot run_loadS run_storeS run_appS run_copS run_clrS run_mkS loadW_at storeW_at fit_all fit_le one_int one_bool one_pointer one_slice allOne_list putRow_new ne_size1 ne_size2 ne_size3 ne_size4 zero8_length lines_nil line_eq lit8 slc_size slc_one slc_part slc_in fold_slt fold_slc slc_set_us wideMsg wideHas run_slS msc_size msc_one msc_part msc_in fold_msc msc_putDi msc_putKe msc_putX msc_has ms4_lit
attribute [local simp ↓] heap_drew heap_drewN heap_alloc heap_past heap_setCell heap_putRow
attribute [local simp] rowCell_some rowFrozen_some rowHas_some rowIn_some rowPart_full rowPart_lit rowPut_full rowPut_lit rowSet_some size_putRow vs_size fit_all putRow_new ne_size1 ne_size2 ne_size3 ne_size4 zero8_length slc_size msc_size msc_putDi msc_putKe msc_putX msc_has fit_le
attribute [local go_sem ↓] ec_he ec_di ec_ow ec_sh ec_bu ec_by ec_wa sc_to
attribute [local go_sem] mi_and mi_or mi_not mi_beq0 mi_bne0 ec_size ec_one ec_part ec_in ec_has ec_setDi ec_setOw ec_setSh ec_setBu ec_setBy ec_setWa ec_setSh0 ec_setWa0 ec_putM sc_size sc_one sc_part sc_in
attribute [local simp] ec_size sc_size ec_setDi ec_setOw ec_setSh ec_setBu ec_setBy ec_setWa ec_setSh0 ec_setWa0 ec_putM
attribute [local go_sem ↓] loadEn storeEn loadSd storeSd en_z0
attribute [local go_sem] wideEn wideSd fold_sc size11 putRow_newB putRow_newC ms5_lit
attribute [local simp] en_z0 putRow_newB putRow_newC fit_le ec_has



attribute [local go_sem ↓] mlitZ zenc_po zenc_en zenc_q
attribute [local simp] mlitZ

/-- A line that may not be dropped. -/
def keptE (e : En) : Bool := !e.he || decide (0 ≤ e.ow) || e.sh != 0#8 || e.bu != 0
section
variable {W : World} {c : Cg} {z : Lay} {L : List (Po × Pt)} {en : List En} {es : List Ent} {xs : List Int}
/-- What a drop saves: the error, the memory's queue. -/
def saveV (c : Cg) (es : List Ent) (i : Nat) (e : En) : Int := if e.di = true then wpushVal c.li c.qu es i else 0
def saveEs (c : Cg) (es : List Ent) (i : Nat) (e : En) : List Ent := if e.di = true then pushEs c.li c.qu es i e.l e.h else es
end
end Go.Proofs.YtcjoinhngdfdmaaGreatDoor
end
section
namespace Go.Proofs.YtcjoinhngdfdmaaGreatDoor
open Go.RowKit
set_option linter.unusedVariables false
set_option maxHeartbeats 1000000

/-! ### What a system has -/
structure Mst where
  ps : List Pt
  en : List En
  es : List Ent
  xs : List Int
def Mst.X (S : Mst) : List Int := over S.xs S.es
/-- Of one line: a core's request, its answers, what it is told. -/
def upL (x : Pt) (i : Nat) : List Ms := x.up.filter (fun m => m.li == (i : Int) && decide (m.kd ≤ 3))
def anL (x : Pt) (i : Nat) : List Ms := x.an.filter (fun m => m.li == (i : Int))
def dnL (x : Pt) (i : Nat) : List Ms := x.dn.filter (fun m => m.li == (i : Int) && m.kd != 14)
def vst (x : Pt) (i : Nat) : Nat := (vw x.s i).1.toNat
def vln (x : Pt) (i : Nat) : List Int := (vw x.s i).2
def ptN : Pt := ⟨([], 0), [], [], []⟩
def atP (ps : List Pt) (j : Nat) : Pt := ps.getD j ptN
theorem atP_of {ps : List Pt} {k : Nat} {x : Pt} (h : ps[k]? = some x) : atP ps k = x := by simp [atP, List.getD, h]
theorem atP_mem {ps : List Pt} {k : Nat} (h : k < ps.length) : ps[k]? = some (atP ps k) := by
  rw [atP, List.getD_eq_getElem?_getD, List.getElem?_eq_getElem h]; rfl
theorem atP_set {ps : List Pt} {k : Nat} (h : k < ps.length) (x : Pt) (j : Nat) : atP (ps.set k x) j = if j = k then x else atP ps j := by
  unfold atP
  rw [List.getD_eq_getElem?_getD, List.getD_eq_getElem?_getD, List.getElem?_set]
  by_cases hj : k = j
  · subst hj; simp [h]
  · rw [if_neg hj, if_neg (fun e => hj e.symm)]
def LinI (co : Nat) (ps : List Pt) (cur X : List Int) (i : Nat) (e : En) : Prop :=
  LI co cur X e (fun j => vst (atP ps j) i) (fun j => vln (atP ps j) i) (fun j => upL (atP ps j) i) (fun j => anL (atP ps j) i) (fun j => dnL (atP ps j) i)
theorem LI.with {co : Nat} {cur X : List Int} {e : En} {st st' : Nat → Nat} {l l' : Nat → List Int} {U N D U' N' D' : Nat → List Ms} (h : LI co cur X e st l U N D)
    (hr : ∀ j : Nat, j < co → Rel cur e.l (ktOf e) (decide (e.ow = (j : Int))) (hasM e.sh j) (hasM e.wa j) (bOf e j) (st' j) (l' j) (U' j) (N' j) (D' j)) : LI co cur X e st' l' U' N' D' :=
  ⟨h.good, h.lo, hr, h.data, h.mem0, h.mem1, h.wait1, h.wait2⟩
theorem LinI.same {co : Nat} {ps ps' : List Pt} {cur X : List Int} {i : Nat} {e : En} (h : LinI co ps cur X i e) (hs : ∀ j, j < co → vst (atP ps' j) i = vst (atP ps j) i ∧ vln (atP ps' j) i = vln (atP ps j) i ∧ upL (atP ps' j) i = upL (atP ps j) i ∧ anL (atP ps' j) i = anL (atP ps j) i ∧ dnL (atP ps' j) i = dnL (atP ps j) i) : LinI co ps' cur X i e := by
  refine h.with fun j hj => ?_
  obtain ⟨h1, h2, h3, h4, h5⟩ := hs j hj
  rw [h1, h2, h3, h4, h5]
  exact h.rel j hj

/-! ### An agent's call -/
theorem AOk.msg {li : Int} {st st' : Int} {l l' : List Int} {ms : List Ms} (h : AOk li st l st' l' ms) (hl : lineB li = true) : ∃ m, ms = [m] ∧ m.li = li ∧ m.kd ≤ 3 ∧ asksB m.kd = true ∧ mg m = true := by
  cases h with
  | askS => exact ⟨_, rfl, rfl, by simp [ms4], rfl, by simp [mg, ms4, kindB, hl]⟩
  | askM => exact ⟨_, rfl, rfl, by simp [ms4], rfl, by simp [mg, ms4, kindB, hl]⟩
  | up => exact ⟨_, rfl, rfl, by simp [ms4], rfl, by simp [mg, ms4, kindB, hl]⟩
  | outS => exact ⟨_, rfl, rfl, by simp [ms4], rfl, by simp [mg, ms4, kindB, hl]⟩
  | outE => exact ⟨_, rfl, rfl, by simp [ms4], rfl, by simp [mg, ms4, kindB, hl]⟩
  | outM l m hk hli hd hke hm => exact ⟨_, rfl, hli, by omega, by rw [hk]; rfl, by simp [mg, hk, hli, hd, hke, kindB, mayD, hl]⟩
section
variable {co : Nat} {ps : List Pt} {cur X : List Int} {i : Nat} {e : En}
theorem LinI.ag (h : LinI co ps cur X i e) {n k : Nat} {x : Pt} (hn : n ≤ 64) (hx : ps[k]? = some x) {s' : Sta} {ms : List Ms} (ha : Asks n x.s s' ms) : LinI co (ps.set k { x with s := s', up := x.up ++ ms }) cur X i e := by
  have hk := (List.getElem?_eq_some_iff.1 hx).1
  refine h.with fun j hj => ?_
  have hr := h.rel j hj
  simp only [atP_set hk]
  by_cases hjk : j = k
  · subst hjk
    simp only [atP_of hx] at hr
    simp only [if_true]
    rcases ha with ⟨rfl, hv⟩ | ⟨li, h0, hn', ha, ho⟩
    · have e1 : vst { x with s := s', up := x.up ++ [] } i = vst x i := by unfold vst; rw [hv]
      have e2 : vln { x with s := s', up := x.up ++ [] } i = vln x i := by unfold vln; rw [hv]
      have e3 : upL { x with s := s', up := x.up ++ [] } i = upL x i := by unfold upL; rw [List.append_nil]
      rw [e1, e2, e3]; exact hr
    · obtain ⟨m, hm, hml, hmk, _⟩ := ha.msg (by unfold lineB; simp; omega)
      have e3 : upL { x with s := s', up := x.up ++ ms } i = upL x i ++ ms.filter (fun m => m.li == (i : Int) && decide (m.kd ≤ 3)) := by unfold upL; rw [List.filter_append]
      rw [e3]
      by_cases hi : li = (i : Int)
      · subst hi
        have h2 := hr.ask ha.nat
        have e4 : ms.filter (fun m => m.li == (i : Int) && decide (m.kd ≤ 3)) = ms := by rw [hm]; simp [hml, hmk]
        rw [e4]
        exact h2
      · have e4 : ms.filter (fun m => m.li == (i : Int) && decide (m.kd ≤ 3)) = [] := by rw [hm]; simp [hml, hi]
        have hv := ho (i : Int) (fun e => hi e.symm)
        have e1 : vst { x with s := s', up := x.up ++ ms } i = vst x i := by unfold vst; rw [hv]
        have e2 : vln { x with s := s', up := x.up ++ ms } i = vln x i := by unfold vln; rw [hv]
        rw [e4, List.append_nil, e1, e2]; exact hr
  · simp only [hjk, if_false]; exact hr
theorem LI.ow_ne {co : Nat} {cur X : List Int} {e : En} {st : Nat → Nat} {l : Nat → List Int} {U N D : Nat → List Ms} (h : LI co cur X e st l U N D) {k : Nat} (hk : e.ow = (k : Int)) : e.he = true ∧ e.sh = 0#8 ∧ ∀ j : Nat, j ≠ k → e.ow ≠ (j : Int) := by
  have hh : e.he = true := by
    cases hh : e.he
    · have he : e = enE := by
        have := h.good
        unfold goodE at this
        rw [if_neg (by simp [hh])] at this
        simpa using this
      rw [he] at hk
      have : (-1 : Int) = (k : Int) := hk
      omega
    · rfl
  obtain ⟨g1, _⟩ := (good_here hh).1 h.good
  refine ⟨hh, ?_, fun j hj => by omega⟩
  rcases g1 with h1 | h1
  · omega
  · exact h1.2
/-- A word is written. -/
theorem LinI.write (h : LinI co ps cur X i e) {k : Nat} {x : Pt} (hkc : k < co) (hx : ps[k]? = some x) {s' : Sta} (cur' : List Int) (hs : (vw x.s i).1 = 2 ∨ (vw x.s i).1 = 3) (hv : vw s' i = (3, cur')) : LinI co (ps.set k { x with s := s' }) cur' X i e ∧ vln x i = cur := by
  have hk := (List.getElem?_eq_some_iff.1 hx).1
  have hrk := h.rel k hkc
  simp only [atP_of hx] at hrk
  have hst : vst x i = 2 ∨ vst x i = 3 := by unfold vst; omega
  obtain ⟨r1, r2, r3⟩ := hrk.write hst cur'
  have how : e.ow = (k : Int) := by simpa using r3
  obtain ⟨hh, hsh, hne⟩ := h.ow_ne how
  refine ⟨⟨h.good, h.lo, fun j hj => ?_, fun _ h1 => by omega, fun h1 => absurd (hh.symm.trans h1) (by decide), h.mem1, h.wait1, h.wait2⟩, r2⟩
  have hr := h.rel j hj
  simp only [atP_set hk]
  by_cases hjk : j = k
  · subst hjk
    simp only [if_true]
    have e1 : vst { x with s := s' } i = 3 := by unfold vst; rw [hv]; rfl
    have e2 : vln { x with s := s' } i = cur' := by unfold vln; rw [hv]
    rw [e1, e2]
    exact r1
  · simp only [hjk, if_false]
    rw [decide_eq_false (hne j hjk), hsh, has_zero] at hr ⊢
    obtain ⟨h1, h2, h3⟩ := hr.none cur' e.l (ktOf e)
    rw [h1, h2]; exact h3
theorem LinI.writeOff (h : LinI co ps cur X i e) {k : Nat} {x : Pt} (hx : ps[k]? = some x) {s' : Sta} (hv : vw s' i = vw x.s i) : LinI co (ps.set k { x with s := s' }) cur X i e := by
  have hk := (List.getElem?_eq_some_iff.1 hx).1
  refine h.same fun j hj => ?_
  simp only [atP_set hk]
  by_cases hjk : j = k
  · subst hjk
    simp only [if_true, atP_of hx]
    exact ⟨by unfold vst; rw [hv], by unfold vln; rw [hv], rfl, rfl, rfl⟩
  · simp only [hjk, if_false, and_self]

/-! ### A core hears -/
theorem hv_ex (m : Ms) (x : Slt) : ∃ st' l', HV m x st' l' := by
  refine ⟨if tb m.kd x.st = 10 then 0 else if tb m.kd x.st = 11 then x.st else tb m.kd x.st, if tb m.kd x.st = 11 then x.l else wordsL m x (tb m.kd x.st), fun h => by rw [if_pos h], fun h => ?_, fun h1 h2 => ?_⟩
  · rw [if_neg (by omega), if_pos h, if_pos h]; exact ⟨rfl, rfl⟩
  · rw [if_neg h1, if_neg h2, if_neg h2]; exact ⟨rfl, rfl⟩
theorem dnL_cons {x : Pt} {m : Ms} {rest : List Ms} (hd : x.dn = m :: rest) (i : Nat) (hm : m.li = (i : Int)) (h14 : m.kd ≠ 14) : dnL x i = m :: dnL { x with dn := rest } i := by
  unfold dnL
  rw [hd, List.filter_cons, if_pos (by simp [hm, h14])]
theorem dnL_skip {x : Pt} {m : Ms} {rest : List Ms} (hd : x.dn = m :: rest) (i : Nat) (hm : m.li ≠ (i : Int) ∨ m.kd = 14) : dnL x i = dnL { x with dn := rest } i := by
  unfold dnL
  rw [hd, List.filter_cons, if_neg (by rcases hm with h | h <;> simp [h])]
theorem LinI.fits (h : LinI co ps cur X i e) {S N n k : Nat} {x : Pt} (hkc : k < co) (hx : ps[k]? = some x) (aj : AJ S N n x.s) {m : Ms} {rest : List Ms} (hd : x.dn = m :: rest) (hm : m.li = (i : Int)) : tb m.kd (vw x.s m.li).1 ≠ 0 := by
  by_cases h14 : m.kd = 14
  · rw [h14]; show (11 : Int) ≠ 0; decide
  · have hr := h.rel k hkc
    simp only [atP_of hx, dnL_cons hd i hm h14] at hr
    obtain ⟨st', l', hv⟩ := hv_ex m (findVal x.s.1 m.li)
    have h0 := (aj.sane1 m.li).1
    have hr' : Rel cur e.l (ktOf e) (decide (e.ow = (k : Int))) (hasM e.sh k) (hasM e.wa k) (bOf e k) (findVal x.s.1 m.li).st.toNat (findVal x.s.1 m.li).l (upL x i) (anL x i) (m :: dnL { x with dn := rest } i) := by
      have e1 : vst x i = (findVal x.s.1 m.li).st.toNat := by unfold vst vw; rw [hm]
      have e2 : vln x i = (findVal x.s.1 m.li).l := by unfold vln vw; rw [hm]
      rw [← e1, ← e2]; exact hr
    exact (hr'.hear h0 (ktOf_or e) hv).1
theorem LinI.hear (h : LinI co ps cur X i e) {S N n k : Nat} {x : Pt} (hx : ps[k]? = some x) (aj : AJ S N n x.s) {m : Ms} {rest : List Ms} (hd : x.dn = m :: rest) (hg : (mg m && tellsB m.kd) = true) (hn : m.li < n) (ht : tb m.kd (vw x.s m.li).1 ≠ 0) :
    LinI co (ps.set k { x with s := (hearF S N x.s m).1, an := x.an ++ answersL m.kd (findVal x.s.1 m.li) (tb m.kd (vw x.s m.li).1), dn := rest }) cur X i e := by
  have hk := (List.getElem?_eq_some_iff.1 hx).1
  obtain ⟨_, _, ho, v10, v11, vno⟩ := aj.hearF hg hn ht
  refine h.with fun j hj => ?_
  have hr := h.rel j hj
  simp only [atP_set hk]
  by_cases hjk : j = k
  · subst hjk
    simp only [atP_of hx] at hr
    simp only [if_true]
    generalize hs' : (hearF S N x.s m).1 = s' at *
    have hal : m.kd ≠ 14 → ∀ a ∈ answersL m.kd (findVal x.s.1 m.li) (tb m.kd (vw x.s m.li).1), a.li = m.li := by
      intro h14 a ha
      have hl := (aj.line (tb_line ht h14)).2.2.1
      have htl : ∀ kd ke, (toldM kd (findVal x.s.1 m.li) ke).li = m.li := by
        intro kd ke; unfold toldM; split
        · exact hl
        · exact hl
      unfold answersL at ha
      split at ha
      · rw [List.mem_singleton] at ha; rw [ha, htl]
      · split at ha
        · rw [List.mem_singleton] at ha; rw [ha, htl]
        · cases ha
    have ean : ∀ av : List Ms, anL { x with s := s', an := x.an ++ av, dn := rest } i = anL x i ++ av.filter (fun m => m.li == (i : Int)) := by intro av; unfold anL; rw [List.filter_append]
    have eup : ∀ av : List Ms, upL { x with s := s', an := x.an ++ av, dn := rest } i = upL x i := fun _ => rfl
    have edn : ∀ av : List Ms, dnL { x with s := s', an := x.an ++ av, dn := rest } i = dnL { x with dn := rest } i := fun _ => rfl
    have evs : ∀ av : List Ms, vst { x with s := s', an := x.an ++ av, dn := rest } i = (vw s' i).1.toNat := fun _ => rfl
    have evl : ∀ av : List Ms, vln { x with s := s', an := x.an ++ av, dn := rest } i = (vw s' i).2 := fun _ => rfl
    rw [ean, eup, edn, evs, evl]
    by_cases h14 : m.kd = 14
    · have e1 : answersL m.kd (findVal x.s.1 m.li) (tb m.kd (vw x.s m.li).1) = [] := by rw [h14]; rfl
      have e2 : vw s' i = vw x.s i := by
        by_cases hi : m.li = (i : Int)
        · rw [← hi]; exact v11 (by rw [h14]; rfl)
        · exact ho _ (fun e => hi e.symm)
      rw [e1, e2, ← dnL_skip hd i (.inr h14)]
      simp only [List.filter_nil, List.append_nil]
      exact hr
    · by_cases hi : m.li = (i : Int)
      · rw [dnL_cons hd i hi h14] at hr
        have e1 : (answersL m.kd (findVal x.s.1 m.li) (tb m.kd (vw x.s m.li).1)).filter (fun m => m.li == (i : Int)) = answersL m.kd (findVal x.s.1 m.li) (tb m.kd (vw x.s m.li).1) := by
          rw [List.filter_eq_self]
          intro a ha
          rw [hal h14 a ha]; simpa using hi
        rw [e1]
        have e2 : vst x i = (findVal x.s.1 m.li).st.toNat := by unfold vst vw; rw [hi]
        have e3 : vln x i = (findVal x.s.1 m.li).l := by unfold vln vw; rw [hi]
        rw [e2, e3] at hr
        refine (hr.hear (aj.sane1 m.li).1 (ktOf_or e) (st' := (vw s' i).1) (l' := (vw s' i).2) ⟨fun h1 => ?_, fun h1 => ?_, fun h1 h2 => ?_⟩).2
        · rw [← hi]; exact v10 h1
        · rw [← hi, v11 h1]; exact ⟨rfl, rfl⟩
        · rw [← hi, vno h1 h2]; exact ⟨rfl, rfl⟩
      · have e1 : (answersL m.kd (findVal x.s.1 m.li) (tb m.kd (vw x.s m.li).1)).filter (fun m => m.li == (i : Int)) = [] := by
          rw [List.filter_eq_nil_iff]
          intro a ha
          rw [hal h14 a ha]; simpa using hi
        rw [e1, ho _ (fun e => hi e.symm), ← dnL_skip hd i (.inl hi), List.append_nil]
        exact hr
  · simp only [hjk, if_false]; exact hr

/-! ### The directory -/
theorem sendP_at (a : Ms) : ∀ (cs : List Int) (ps : List Pt), cs.Nodup → (∀ c ∈ cs, 0 ≤ c ∧ c < ps.length) → (sendP ps (cs.map fun c => (⟨c, a⟩ : Sd))).length = ps.length ∧ ∀ j : Nat, j < ps.length → atP (sendP ps (cs.map fun c => (⟨c, a⟩ : Sd))) j = if (j : Int) ∈ cs then { atP ps j with dn := (atP ps j).dn ++ [a] } else atP ps j
  | [], ps, _, _ => ⟨rfl, fun j _ => by simp [sendP]⟩
  | c :: cs, ps, hn, hc => by
    obtain ⟨hc1, hc2⟩ := hc c (by simp)
    obtain ⟨p, rfl⟩ : ∃ p : Nat, c = (p : Int) := ⟨c.toNat, by omega⟩
    have hp : p < ps.length := by omega
    have e1 : sendP ps (((p : Int) :: cs).map fun c => (⟨c, a⟩ : Sd)) = sendP (ps.set p { atP ps p with dn := (atP ps p).dn ++ [a] }) (cs.map fun c => (⟨c, a⟩ : Sd)) := by
      unfold sendP
      rw [List.map_cons, List.foldl_cons]
      congr 1
      unfold sendTo
      show (match ps[(p : Int).toNat]? with | some x => _ | none => _) = _
      rw [Int.toNat_natCast, atP_mem hp]
    rw [List.nodup_cons] at hn
    obtain ⟨h1, h2⟩ := sendP_at a cs (ps.set p { atP ps p with dn := (atP ps p).dn ++ [a] }) hn.2 (fun c hc' => by rw [List.length_set]; exact hc c (by simp [hc']))
    rw [e1]
    refine ⟨by rw [h1, List.length_set], fun j hj => ?_⟩
    rw [h2 j (by rw [List.length_set]; exact hj), atP_set hp]
    by_cases hjp : j = p
    · subst hjp
      rw [if_neg hn.1, if_pos rfl, if_pos (by simp)]
    · simp only [hjp, if_false]
      by_cases hm : (j : Int) ∈ cs
      · rw [if_pos hm, if_pos (by simp [hm])]
      · rw [if_neg hm, if_neg (by simp [hm]; omega)]
theorem coresL_nodup (o : Mk) : (coresL o).Nodup := by
  unfold coresL coresTo
  exact List.Nodup.sublist List.filter_sublist (by decide)
theorem has_isC {o : Mk} {c : Int} (h : hasM o c = true) : isC c = true := by
  cases hc : isC c
  · rw [has_out hc] at h; cases h
  · rfl
theorem sendP_tell (o : Mk) (a : Ms) (ps : List Pt) (h : ∀ j : Nat, j < 8 → hasM o j = true → j < ps.length) : (sendP ps (tellL o a)).length = ps.length ∧ ∀ j : Nat, j < ps.length → atP (sendP ps (tellL o a)) j = if hasM o j = true then { atP ps j with dn := (atP ps j).dn ++ [a] } else atP ps j := by
  have := sendP_at a (coresL o) ps (coresL_nodup o) (fun c hc => by
    have h1 := (mem_cores o c).1 hc
    obtain ⟨j, hj, rfl⟩ := isC_nat (has_isC h1)
    have := h j hj h1
    omega)
  refine ⟨this.1, fun j hj => ?_⟩
  rw [show tellL o a = (coresL o).map fun c => (⟨c, a⟩ : Sd) from rfl, this.2 j hj]
  by_cases hm : hasM o (j : Int) = true
  · rw [if_pos hm, if_pos ((mem_cores o j).2 hm)]
  · rw [if_neg hm, if_neg (fun h => hm ((mem_cores o j).1 h))]
/-- What is sent of another line, or a Done, is nothing to this one. -/
theorem LinI.sent (h : LinI co ps cur X i e) (hl : ps.length = co) {o : Mk} {a : Ms} (ho : ∀ j : Nat, j < 8 → hasM o j = true → j < co) (ha : a.li ≠ (i : Int) ∨ a.kd = 14) : LinI co (sendP ps (tellL o a)) cur X i e := by
  obtain ⟨_, h2⟩ := sendP_tell o a ps (by rw [hl]; exact ho)
  refine h.same fun j hj => ?_
  rw [h2 j (by omega)]
  split
  · refine ⟨rfl, rfl, rfl, rfl, ?_⟩
    unfold dnL
    rw [List.filter_append]
    have : [a].filter (fun m => m.li == (i : Int) && m.kd != 14) = [] := by rcases ha with ha | ha <;> simp [ha]
    rw [this, List.append_nil]
  · exact ⟨rfl, rfl, rfl, rfl, rfl⟩
/-- What is sent of this line. -/
theorem LinI.sends {st : Nat → Nat} {l : Nat → List Int} {U N : Nat → List Ms} {D : Nat → List Ms} {e' : En} {o : Mk} {a : Ms} (h : LI co cur X e' st l U N (fun j => D j ++ if hasM o j = true then [a] else [])) (hl : ps.length = co) (ho : ∀ j : Nat, j < 8 → hasM o j = true → j < co) (ha : a.li = (i : Int)) (h14 : a.kd ≠ 14)
    (hs : ∀ j, j < co → vst (atP ps j) i = st j ∧ vln (atP ps j) i = l j ∧ upL (atP ps j) i = U j ∧ anL (atP ps j) i = N j ∧ dnL (atP ps j) i = D j) : LinI co (sendP ps (tellL o a)) cur X i e' := by
  obtain ⟨_, h2⟩ := sendP_tell o a ps (by rw [hl]; exact ho)
  refine h.with fun j hj => ?_
  have hr := h.rel j hj
  obtain ⟨h3, h4, h5, h6, h7⟩ := hs j hj
  simp only [h2 j (show j < ps.length by omega)]
  rw [← h3, ← h4, ← h5, ← h6, ← h7] at hr
  by_cases hm : hasM o (j : Int) = true
  · rw [if_pos hm]
    have e1 : dnL { atP ps j with dn := (atP ps j).dn ++ [a] } i = dnL (atP ps j) i ++ if hasM o (j : Int) = true then [a] else [] := by
      unfold dnL
      rw [List.filter_append, if_pos hm]
      congr 1
      simp [ha, h14]
    rw [e1]; exact hr
  · rw [if_neg hm]
    rw [if_neg hm, List.append_nil] at hr
    exact hr
theorem upL_cons {x : Pt} {m : Ms} {rest : List Ms} (hd : x.up = m :: rest) (i : Nat) (hm : m.li = (i : Int)) (h3 : m.kd ≤ 3) : upL x i = m :: upL { x with up := rest } i := by
  unfold upL
  rw [hd, List.filter_cons, if_pos (by simp [hm, h3])]
theorem upL_skip {x : Pt} {m : Ms} {rest : List Ms} (hd : x.up = m :: rest) (i : Nat) (hm : m.li ≠ (i : Int) ∨ ¬ m.kd ≤ 3) : upL x i = upL { x with up := rest } i := by
  unfold upL
  rw [hd, List.filter_cons, if_neg (by rcases hm with h | h <;> simp [h])]
theorem anL_cons {x : Pt} {m : Ms} {rest : List Ms} (hd : x.an = m :: rest) (i : Nat) (hm : m.li = (i : Int)) : anL x i = m :: anL { x with an := rest } i := by
  unfold anL
  rw [hd, List.filter_cons, if_pos (by simp [hm])]
theorem anL_skip {x : Pt} {m : Ms} {rest : List Ms} (hd : x.an = m :: rest) (i : Nat) (hm : m.li ≠ (i : Int)) : anL x i = anL { x with an := rest } i := by
  unfold anL
  rw [hd, List.filter_cons, if_neg (by simp [hm])]
/-- A request: its own line, and any other one. -/
theorem LinI.up (h : LinI co ps cur X i e) (h8 : co ≤ 8) (hl : ps.length = co) (hX : X.length = 8) (hb : e.bu = 0) {k : Nat} {x : Pt} (hx : ps[k]? = some x) {m : Ms} {rest : List Ms} (hu : x.up = m :: rest) (hm : asksB m.kd = true) (hg : mg m = true) (hi : m.li = (i : Int)) :
    ∃ (o : Mk) (a : Ms) (e' : En), askE (hereP e X hX) k m = ((e', tellL o a), 0) ∧ TellOk m.li a ∧ (∀ j : Nat, j < 8 → hasM o j = true → j < co) ∧ LinI co (sendP (ps.set k { x with up := rest }) (tellL o a)) cur X i e' := by
  have hk := (List.getElem?_eq_some_iff.1 hx).1
  obtain ⟨h1, hh, hbb⟩ := LI.here h hX
  have hb' : (hereP e X hX).bu = 0 := hbb.trans hb
  have hli : lineB m.li = true := by simp only [mg, Bool.and_eq_true] at hg; exact hg.1.1.1.2
  obtain ⟨o, a, d1, d2, d3, d4⟩ := LI.deed h1 h8 hh hb' (k := k) (by omega) hm hli (V := upL { x with up := rest } i) (fun h3 => by simp only [atP_of hx]; exact upL_cons hu i hi h3)
  have harg : askArg (hereP e X hX) k m = true := by simp [askArg, h1.good, isC_cast (show k < 8 by omega), hg, hm]
  refine ⟨o, a, (deedE (hereP e X hX) k m).1, ?_, d2, d3, ?_⟩
  · unfold askE
    rw [if_pos harg, if_neg (by rw [hb']; decide), if_neg (by rw [hh]; decide), ← d1]
  · refine LinI.sends d4 (by rw [List.length_set]; exact hl) d3 (by rw [d2.2.2.1, hi]) d2.2.2.2 fun j hj => ?_
    simp only [atP_set hk]
    by_cases hjk : j = k
    · subst hjk
      simp only [if_true, atP_of hx, and_true]
      refine ⟨rfl, rfl, ?_, rfl, rfl⟩
      by_cases h3 : m.kd ≤ 3
      · simp only [h3, if_true]
      · simp only [h3, if_false]; exact (upL_skip hu i (.inr h3)).symm
    · simp only [hjk, if_false, and_false, and_self]
theorem LinI.upOff (h : LinI co ps cur X i e) (hl : ps.length = co) {k : Nat} {x : Pt} (hx : ps[k]? = some x) {m : Ms} {rest : List Ms} (hu : x.up = m :: rest) (hi : m.li ≠ (i : Int)) {o : Mk} {a : Ms} (ho : ∀ j : Nat, j < 8 → hasM o j = true → j < co) (ha : TellOk m.li a) : LinI co (sendP (ps.set k { x with up := rest }) (tellL o a)) cur X i e := by
  have hk := (List.getElem?_eq_some_iff.1 hx).1
  refine LinI.sent (h.same fun j hj => ?_) (by rw [List.length_set]; exact hl) ho (.inl (by rw [ha.2.2.1]; exact hi))
  simp only [atP_set hk]
  by_cases hjk : j = k
  · subst hjk
    simp only [if_true, atP_of hx]
    exact ⟨rfl, rfl, (upL_skip hu i (.inl hi)).symm, rfl, rfl⟩
  · simp only [hjk, if_false, and_self]
theorem LinI.answer (h : LinI co ps cur X i e) (h8 : co ≤ 8) (hl : ps.length = co) {k : Nat} {x : Pt} (hx : ps[k]? = some x) {m : Ms} {rest : List Ms} (hu : x.an = m :: rest) (hm : answersB m.kd = true) (hg : mg m = true) (hi : m.li = (i : Int)) :
    ∃ (o : Mk) (a : Ms) (e' : En), ansE e k m = ((e', tellL o a), 0) ∧ TellOk m.li a ∧ (∀ j : Nat, j < 8 → hasM o j = true → j < co) ∧ LinI co (sendP (ps.set k { x with an := rest }) (tellL o a)) cur X i e' := by
  have hk := (List.getElem?_eq_some_iff.1 hx).1
  obtain ⟨o, a, d0, d1, d2, d3, d4⟩ := LI.answered h h8 (k := k) (by omega) hm hg (V := anL { x with an := rest } i) (by simp only [atP_of hx]; exact anL_cons hu i hi)
  refine ⟨o, a, (ansE e k m).1.1, ?_, d2, d3, ?_⟩
  · rw [← d1, ← d0]
  · refine LinI.sends d4 (by rw [List.length_set]; exact hl) d3 (by rw [d2.2.2.1, hi]) d2.2.2.2 fun j hj => ?_
    simp only [atP_set hk]
    by_cases hjk : j = k
    · subst hjk
      simp only [if_true, atP_of hx]
      exact ⟨rfl, rfl, rfl, trivial, rfl⟩
    · simp only [hjk, if_false, and_self]
theorem LinI.answerOff (h : LinI co ps cur X i e) (hl : ps.length = co) {k : Nat} {x : Pt} (hx : ps[k]? = some x) {m : Ms} {rest : List Ms} (hu : x.an = m :: rest) (hi : m.li ≠ (i : Int)) {o : Mk} {a : Ms} (ho : ∀ j : Nat, j < 8 → hasM o j = true → j < co) (ha : TellOk m.li a) : LinI co (sendP (ps.set k { x with an := rest }) (tellL o a)) cur X i e := by
  have hk := (List.getElem?_eq_some_iff.1 hx).1
  refine LinI.sent (h.same fun j hj => ?_) (by rw [List.length_set]; exact hl) ho (.inl (by rw [ha.2.2.1]; exact hi))
  simp only [atP_set hk]
  by_cases hjk : j = k
  · subst hjk
    simp only [if_true, atP_of hx]
    exact ⟨rfl, rfl, rfl, (anL_skip hu i hi).symm, rfl⟩
  · simp only [hjk, if_false, and_self]
/-- A flush is over: the memory has the words. -/
theorem LinI.push (h : LinI co ps cur X i e) (hd : readyE e = true) {X' : List Int} (hX : X' = e.l) : LinI co ps cur X' i ((overE e).setDi false) := by
  have fit := push_fit hd
  have hb : e.bu = 4 ∨ e.bu = 5 := by simp only [readyE, Bool.and_eq_true, Bool.or_eq_true, beq_iff_eq] at hd; exact hd.1.2
  have hw : e.wa = 0#8 := by simp only [readyE, Bool.and_eq_true, beq_iff_eq] at hd; exact hd.2
  have hh : e.he = true := fit.1
  have hg : goodE ((overE e).setDi false) = true := fit.2.1
  refine ⟨hg, ⟨h.lo.1, ?_, h.lo.2.2.1, fun j _ h1 => ?_⟩, fun j hj => ?_, h.data, fun h1 => absurd (hh.symm.trans h1) (by decide), fun _ _ => hX, fun h1 => absurd (show (0 : Int) = 1 from h1) (by decide), fun h1 => absurd (show (0 : Int) = 2 from h1) (by decide)⟩
  · obtain ⟨p, hp, he⟩ := isC_nat (by rcases ((good_here hh).1 h.good).2 with ⟨h1, _⟩ | ⟨_, h1, _⟩ | ⟨_, h1⟩; omega; exact h1.1; exact h1.1)
    have := h.lo.2.1
    show (0 : Int) < co
    omega
  · have h2 : hasM 0#8 (j : Int) = true := h1
    rw [has_zero] at h2; cases h2
  · have hr := h.rel j hj
    rw [hw, has_zero, bOf_fl j hb] at hr
    show Rel cur e.l (ktOf ((overE e).setDi false)) (decide (e.ow = (j : Int))) (hasM e.sh j) (hasM 0#8 j) (bOf ((overE e).setDi false) j) _ _ _ _ _
    rw [has_zero, bOf_0 (show ((overE e).setDi false).bu = 0 from rfl)]
    exact (hr.anyKt _).1
/-- A line that nobody has is put out. -/
theorem LinI.drop (h : LinI co ps cur X i e) (hco : 1 ≤ co) (hd : keptE e = false) {X' : List Int} (hX : X' = e.l) : LinI co ps cur X' i enE := by
  unfold keptE at hd
  simp only [Bool.or_eq_false_iff, Bool.not_eq_false', decide_eq_false_iff_not, bne_eq_false_iff_eq] at hd
  obtain ⟨⟨⟨hh, ho⟩, hs⟩, hb⟩ := hd
  obtain ⟨g1, g2, g3, hr⟩ := LI.free h hh hb
  have hone : e.ow = -1 := by
    rcases g1 with h1 | ⟨h1, _⟩
    · exact h1
    · simp [isC] at h1; omega
  have hc := h.data hh hone
  refine ⟨rfl, ⟨by show (-1 : Int) < co; omega, by show (0 : Int) < co; omega, fun j _ h1 => ?_, fun j _ h1 => ?_⟩, fun j hj => ?_, fun h1 => absurd (show false = true from h1) (by decide), fun _ => hX.trans hc, fun h1 => absurd (show false = true from h1) (by decide), fun h1 => absurd (show (0 : Int) = 1 from h1) (by decide), fun h1 => absurd (show (0 : Int) = 2 from h1) (by decide)⟩
  · have h2 : hasM 0#8 (j : Int) = true := h1
    rw [has_zero] at h2; cases h2
  · have h2 : hasM 0#8 (j : Int) = true := h1
    rw [has_zero] at h2; cases h2
  · have h1 := hr j hj
    rw [hone, decide_eq_false (by omega), hs, has_zero] at h1
    obtain ⟨_, h3, h4⟩ := h1.none cur enE.l 13
    show Rel cur enE.l 13 (decide ((-1 : Int) = (j : Int))) (hasM 0#8 j) (hasM 0#8 j) (bOf enE j) _ _ _ _ _
    rw [decide_eq_false (by omega), has_zero, bOf_0 (show enE.bu = 0 from rfl), h3]
    exact h4
/-- The memory's words of the line are as they were. -/
theorem LinI.mem (h : LinI co ps cur X i e) {X' : List Int} (hX : X' = X) : LinI co ps cur X' i e := by subst hX; exact h
end
end Go.Proofs.YtcjoinhngdfdmaaGreatDoor
end
section
namespace Go.Proofs.YtcjoinhngdfdmaaGreatDoor
open Go.RowKit
set_option linter.unusedVariables false
set_option maxHeartbeats 1000000
set_option maxRecDepth 100000
attribute [local go_sem ↓] append_appS copy_copS clear_clrS make_mkS cell_row frozen_row loadLine storeLine loadSlot storeSlot heap_drew heap_drewN heap_alloc heap_past heap_setCell heap_putRow vs_get slc_st slc_li slc_us slice_slS loadMsg storeMsg loadHas storeHas msc_kd msc_li msc_di msc_ke
attribute [local go_sem] rowCell_some rowFrozen_some rowHas_some rowIn_some rowPart_full rowPart_lit rowPut_full rowPut_lit rowSet_some size_putRow vs_size vs_one wideLine wideSlot run_loadS run_storeS run_appS run_copS run_clrS run_mkS loadW_at storeW_at fit_all fit_le one_int one_bool one_pointer one_slice allOne_list putRow_new ne_size1 ne_size2 ne_size3 ne_size4 zero8_length lines_nil line_eq lit8 slc_size slc_one slc_part slc_in fold_slt fold_slc slc_set_us wideMsg wideHas run_slS msc_size msc_one msc_part msc_in fold_msc msc_putDi msc_putKe msc_putX msc_has ms4_lit
attribute [local simp ↓] heap_drew heap_drewN heap_alloc heap_past heap_setCell heap_putRow
attribute [local simp] rowCell_some rowFrozen_some rowHas_some rowIn_some rowPart_full rowPart_lit rowPut_full rowPut_lit rowSet_some size_putRow vs_size fit_all putRow_new ne_size1 ne_size2 ne_size3 ne_size4 zero8_length slc_size msc_size msc_putDi msc_putKe msc_putX msc_has fit_le
attribute [local go_sem ↓] ec_he ec_di ec_ow ec_sh ec_bu ec_by ec_wa sc_to
attribute [local go_sem] mi_and mi_or mi_not mi_beq0 mi_bne0 ec_size ec_one ec_part ec_in ec_has ec_setDi ec_setOw ec_setSh ec_setBu ec_setBy ec_setWa ec_setSh0 ec_setWa0 ec_putM sc_size sc_one sc_part sc_in
attribute [local simp] ec_size sc_size ec_setDi ec_setOw ec_setSh ec_setBu ec_setBy ec_setWa ec_setSh0 ec_setWa0 ec_putM
attribute [local go_sem ↓] loadEn storeEn loadSd storeSd en_z0
attribute [local go_sem] wideEn wideSd fold_sc size11 putRow_newB putRow_newC ms5_lit
attribute [local simp] en_z0 putRow_newB putRow_newC fit_le ec_has



attribute [local go_sem ↓] mlitZ zenc_po zenc_en zenc_q
attribute [local simp] mlitZ

theorem mul64_one (n : Nat) (hn : n ≤ 64) (w : World) : Calls Tryz.prog 168 #[.int .u64 1, .int .u64 n] w fun e w' => e = .returned (.tuple #[.int .u64 0, .int .u64 n]) ∧ w = w' := by
  have b1 : bits BinOp.and IntKind.u64 1 4294967295 = 1 := by decide
  have b0 : bits BinOp.and IntKind.u64 0 4294967295 = 0 := by decide
  have b2 : bits BinOp.and IntKind.u64 (n : Int) 4294967295 = (n : Int) := by
    have : ∀ k : Fin 65, bits BinOp.and IntKind.u64 ((k.val : Nat) : Int) 4294967295 = ((k.val : Nat) : Int) := by decide
    exact this ⟨n, by omega⟩
  have d0 : (n : Int) / 4294967296 = 0 := by omega
  have w1 : IntKind.u64.wrap (n : Int) = (n : Int) := by
    have : ∀ k : Fin 65, IntKind.u64.wrap ((k.val : Nat) : Int) = ((k.val : Nat) : Int) := by decide
    exact this ⟨n, by omega⟩
  have w0 : IntKind.u64.wrap 0 = 0 := by decide
  go_enter Tryz.func168, Tryz.ntmps168
  try dsimp only [List.append]
  go_wp2_with fail
  go_ret2
  exact ⟨by simp, rfl⟩
theorem mul_one (n : Nat) (hn : n ≤ 64) (w : World) : Calls Tryz.prog 121 #[.int .u64 1, .int .u64 n] w fun e w' => e = .returned (.tuple #[.int .u64 0, .int .u64 n]) ∧ w = w' := by
  go_enter Tryz.func121, Tryz.ntmps121
  try dsimp only [List.append]
  go_wp2_with (first | (go_at_call 168; refine (mul64_one n hn _).mono ?_; rintro e w' ⟨rfl, rfl⟩))
  go_ret2
  exact ⟨rfl, rfl⟩
theorem made_sq {α : Type} {enc : α → List Value} {k : Nat} (hk : ∀ a, (enc a).length = k) (h0 : 0 < k) (a0 : α) (n : Nat) : madeCells (enc a0).toArray (n * k) = sq enc (List.replicate n a0) [] := by
  apply Array.ext
  · rw [sq_size hk]; simp [madeCells]
  · intro i h1 h2
    have hi : i < n * k := by simpa [madeCells] using h1
    obtain ⟨j, d, hj, hd, rfl⟩ : ∃ j d, j < n ∧ d < k ∧ i = j * k + d := ⟨i / k, i % k, by rw [Nat.div_lt_iff_lt_mul h0]; exact hi, Nat.mod_lt _ h0, by rw [Nat.mul_comm]; exact (Nat.div_add_mod i k).symm⟩
    have h3 : (List.replicate n a0)[j]? = some a0 := by rw [List.getElem?_replicate, if_pos hj]
    have h4 := sq_cell hk h3 [] d hd
    rw [Array.getElem?_eq_getElem h2] at h4
    have e11 : (enc a0).toArray.size = k := by simp [hk]
    have hmod : (j * k + d) % k = d := by rw [Nat.add_comm, Nat.add_mul_mod_self_right, Nat.mod_eq_of_lt hd]
    simp only [madeCells, Array.getElem_map, Array.getElem_range]
    have h5 : ((enc a0).toArray)[d]? = (enc a0)[d]? := by rw [List.getElem?_toArray]
    rw [← h4, Array.getElem?_eq_getElem (by rw [e11]; exact hd)] at h5
    rw [e11, hmod, getElem!_pos (enc a0).toArray d (by rw [e11]; exact hd)]
    exact Option.some.inj h5
section
variable {P : Program} {t e : TypeId} {ty : TypeId}
/-- 'copy(d, x)': as many as fit. -/
theorem run_copy_min {t' : TypeId} {i : TypeInfo} (ht : P.underlying t = some (.slice e)) (hi : P.info? e = some i) (w : World) (b o : Nat) (A : Option Addr) (n c m d k : Nat) (xs : List Value) (hk : Nat.min n m = k) (h : Sl w i.size A k xs) (h1 : ∀ v ∈ xs, v.oneCell' = true) (hb : rowHas (w.heap[b]?) o xs.length = true) :
    copR P t t' ty #[.slice (some ⟨b, o, none⟩) m d, .slice A n c] w = .ok (goInt k) (putRow w b o xs.toArray) := by
  have hf := run_firstCells_sl (P := P) w i.size k A n c xs h
  have hst := run_storeCells_cells (P := P) b o xs 0 w ?_ ?_ h1
  · simp only [Nat.add_zero] at hst
    simp [copR, Builtin.copy_, run_underlying ht, Builtin.lenOf, sizeOf, typeInfo, hi, hf, hst, putRow, hk]
  all_goals
    intro j hj
    rw [Nat.add_zero]
    cases e : w.heap[b]? with
    | none => rw [e] at hb; cases hb
    | some x =>
      rw [e] at hb
      cases x with
      | cells c t f =>
        simp [rowHas] at hb
        obtain ⟨hb, rfl⟩ := hb
        have := hb.out
        first
          | (rw [cell_row, e, rowCell_some]; simp; omega)
          | (rw [frozen_row, e, rowFrozen_some])
      | _ => simp [rowHas] at hb
end
theorem cat_more {α : Type} {k : Nat} {enc : α → List Value} (hk : ∀ a, (enc a).length = k) (xs ys zs : List α) (h : zs.length ≤ ys.length) : splice (cat enc (xs ++ ys)) (xs.length * k) (cat enc zs) = cat enc (xs ++ zs ++ ys.drop zs.length) := by
  unfold splice
  rw [cat_append, cat_append, cat_append, List.take_left' (cat_length hk xs), List.drop_append, List.drop_eq_nil_of_le (by rw [cat_length hk, cat_length hk]; omega), cat_length hk, cat_length hk, List.nil_append, Nat.add_sub_cancel_left]
  congr 1
  have : ∀ (n : Nat) (l : List α), (cat enc l).drop (n * k) = cat enc (l.drop n) := by
    intro n
    induction n with
    | zero => intro l; simp
    | succ n ih =>
      intro l
      cases l with
      | nil => simp [cat]
      | cons a l =>
        rw [List.drop_succ_cons, ← ih l, cat_cons, Nat.add_mul, Nat.one_mul, Nat.add_comm, ← hk a, List.drop_append]
        simp
  exact this _ _

theorem en_info : (Tryz.prog.info? 129).map (fun i => (i.zero, i.size, i.bytes)) = some (some (.agg (ec enZ)), 15, 112) := by kernel_rfl
def repE (e : En) (n k : Nat) : List En := List.replicate k e ++ List.replicate (n - k) enZ
theorem repE_len (e : En) (n k : Nat) (h : k ≤ n) : (repE e n k).length = n := by simp [repE]; omega
theorem repE_zero (e : En) (n : Nat) : repE e n 0 = List.replicate n enZ := by simp [repE]
theorem repE_all (e : En) (n : Nat) : repE e n n = List.replicate n e := by simp [repE]
theorem repE_put (e : En) (n k j : Nat) (hj : k + j ≤ n) (t : TypeId) (f : Nat × Nat) : rowPut (some (.cells (sq En.enc (repE e n k) []) t f)) (k * 15) (cat En.enc (List.replicate j e)).toArray = some (.cells (sq En.enc (repE e n (k + j)) []) t f) := by
  rw [rowPut_some, sq_toList, List.append_nil, List.toList_toArray]
  have h1 : splice (cat En.enc (repE e n k)) (k * 15) (cat En.enc (List.replicate j e)) = cat En.enc (repE e n (k + j)) := by
    have h2 := cat_more En.len (List.replicate k e) (List.replicate (n - k) enZ) (List.replicate j e) (by simp; omega)
    rw [List.length_replicate] at h2
    unfold repE
    rw [h2, List.length_replicate, List.replicate_append_replicate, List.drop_replicate, show n - k - j = n - (k + j) by omega]
  rw [h1]
  unfold sq
  rw [List.append_nil]
theorem run_make_ents (w : World) (n : Nat) (hn : n ≤ 64) : mkR Tryz.prog 82 (.int .i64 n) (.int .i64 n) w = .ok (.slice (some ⟨w.heap.size, 0, none⟩) n n) (w.alloc (.cells (sq En.enc (List.replicate n enZ) []) 129)) := by
  obtain ⟨i0, hi0, hz0, hz1, hz2⟩ := info_parts en_info
  have := run_make (P := Tryz.prog) w 82 129 i0 _ Tryz.underlying82 hi0 hz0 .i64 .i64 n n (by omega) (by omega) (by rw [hz2]; omega) (by omega)
  simp only [Int.toNat_natCast, hz1] at this
  rw [← made_sq En.len (by decide)]
  exact this
/-- 'x[k:]', 'x[:k]' of a slice at a block's head. -/
theorem slR_from (w : World) (b n k : Nat) (hk : k < n) : slR Tryz.prog 82 (.slice (some ⟨b, 0, none⟩) n n) (some (.int .i64 k)) none none w = .ok (.slice (some ⟨b, k * 15, none⟩) (n - k) (n - k)) w := by
  obtain ⟨i0, hi0, hz0, hz1, hz2⟩ := info_parts en_info
  unfold slR
  have h1 : (0 : Int) ≤ (k : Int) := by omega
  have h4 : k ≤ n := by omega
  have h5 : ¬ n = k := by omega
  simp [Instr.slice, Instr.sliceBounds, Instr.sliceBound, asIntOf, run_underlying Tryz.underlying82, sizeOf, typeInfo, hi0, hz1, h1, h4, h5, Addr.add]
  omega
theorem slR_to (w : World) (b n k : Nat) (hk : k ≤ n) : slR Tryz.prog 82 (.slice (some ⟨b, 0, none⟩) n n) none (some (.int .i64 k)) none w = .ok (.slice (some ⟨b, 0, none⟩) k n) w := by
  obtain ⟨i0, hi0, hz0, hz1, hz2⟩ := info_parts en_info
  unfold slR
  have h1 : (0 : Int) ≤ (k : Int) := by omega
  simp [Instr.slice, Instr.sliceBounds, Instr.sliceBound, asIntOf, run_underlying Tryz.underlying82, sizeOf, typeInfo, hi0, h1, Addr.add]
  intro h; omega

theorem ent_copyS (w : World) (b e0 n k m d c : Nat) (A : Option Addr) (o : Nat) (xs : List En) (hk : Nat.min c m = k) (h : Sl w 15 A k (cat En.enc xs)) (hb : rowHas (w.heap[b]?) o (cat En.enc xs).length = true) :
    copR Tryz.prog 82 82 3 #[.slice (some ⟨b, o, none⟩) m d, .slice A c n] w = .ok (goInt k) (putRow w b o (cat En.enc xs).toArray) := by
  obtain ⟨i0, hi0, hz0, hz1, hz2⟩ := info_parts en_info
  rw [← hz1] at h
  exact run_copy_min Tryz.underlying82 hi0 w b o A c n m d k _ hk h (fun v hv => cat_one_cell En.one xs v hv) hb
theorem repeat_ok (e : En) (b n : Nat) (w : World) (hb : w.heap[b]? = some (.cells (sq En.enc [e] []) 129 (0, 0))) (h1 : 1 ≤ n) (hn : n ≤ 64) :
    Calls Tryz.prog 72 #[.slice (some ⟨b, 0, none⟩) 1 1, .int .i64 n] w fun r w' => ∃ b', r = .returned (.slice (some ⟨b', 0, none⟩) n n) ∧ w'.heap[b']? = some (.cells (sq En.enc (List.replicate n e) []) 129 (0, 0)) ∧ w.heap.size ≤ b' ∧ Chg [] w w' := by
  have hmk := fun W => run_make_ents W n hn
  have HB := Lib.hid hb
  have OB := Lib.hid (old hb)
  have g0 : (0 : Int) ≤ (n : Int) := by omega
  have g1 : (n : Int) ≤ 64 := by omega
  have t1 : decide ((n : Int) < 0) = false := by simp
  have u1 : IntKind.u64.wrap (n : Int) = (n : Int) := by
    have : ∀ k : Fin 65, IntKind.u64.wrap ((k.val : Nat) : Int) = ((k.val : Nat) : Int) := by decide
    exact this ⟨n, by omega⟩
  have u2 : IntKind.i64.wrap (n : Int) = (n : Int) := by
    have : ∀ k : Fin 65, IntKind.i64.wrap ((k.val : Nat) : Int) = ((k.val : Nat) : Int) := by decide
    exact this ⟨n, by omega⟩
  have t2 : decide ((9223372036854775807 : Int) < (n : Int)) = false := by simp; omega
  have c1 := (Chg.refl [] w).alloc (.cells (sq En.enc (List.replicate n enZ) []) 129)
  have hz : (w.alloc (.cells (sq En.enc (List.replicate n enZ) []) 129)).heap[w.heap.size]? = some (.cells (sq En.enc (repE e n 0) []) 129 (0, 0)) := by rw [repE_zero]; simp
  have hcp := ent_copyS (w.alloc (.cells (sq En.enc (List.replicate n enZ) []) 129)) w.heap.size 0 1 1 n n 1 (some ⟨b, 0, none⟩) 0 [e] (Nat.min_eq_left h1) ⟨by rw [cat_length En.len]; rfl, .inr ⟨b, 0, _, _, _, rfl, c1.keep hb (by simp), by rw [sq_toList, List.append_nil, List.drop_zero, List.take_of_length_le (by rw [cat_length En.len]; exact Nat.le_refl _)]⟩⟩ (by
    rw [hz, rowHas_some, sq_size En.len, repE_len e n 0 (by omega), cat_length En.len]
    exact decide_eq_true (show 0 + [e].length * 15 ≤ n * 15 + ([] : List Value).length by simp; omega))
  have hw2 : (putRow (w.alloc (.cells (sq En.enc (List.replicate n enZ) []) 129)) w.heap.size 0 (cat En.enc [e]).toArray).heap[w.heap.size]? = some (.cells (sq En.enc (repE e n 1) []) 129 (0, 0)) := by
    rw [heap_putRow _ _ _ _ _ (by
      rw [hz, rowHas_some, sq_size En.len, repE_len e n 0 (by omega)]
      refine decide_eq_true (show 0 + (cat En.enc [e]).toArray.size ≤ n * 15 + ([] : List Value).length from ?_)
      rw [List.size_toArray, cat_length En.len]; simp; omega), if_pos rfl, hz]
    have := repE_put e n 0 1 (by omega) 129 (0, 0)
    simpa using this
  have HC2 := Lib.hid (c1.putRow w.heap.size 0 (cat En.enc [e]).toArray (.inr (Nat.le_refl _)))
  have HW2 := Lib.hid hw2
  clear hb hz c1 hw2
  go_enter Tryz.func72, Tryz.ntmps72
  try dsimp only [List.append]
  go_wp2_with (first | (go_at_call 121; refine (mul_one n hn _).mono ?_; rintro e w' ⟨rfl, rfl⟩))
  have HLE := Lib.hid (Nat.le_refl w.heap.size)
  generalize hb2 : w.heap.size = b2 at hcp HC2 HW2 HLE ⊢
  have HB2 := Lib.hid hb2
  generalize putRow (w.alloc (.cells (sq En.enc (List.replicate n enZ) []) 129)) b2 0 (cat En.enc [e]).toArray = w3 at HC2 HW2 ⊢
  clear hcp hb2
  go_loopw [8] (fun ix wr => ∃ k : Nat, 1 ≤ k ∧ k ≤ n ∧ ix = .int .i64 k ∧ wr.heap[b2]? = some (.cells (sq En.enc (repE e n k) []) 129 (0, 0)) ∧ Chg [] w wr) (fun ix _ => n - (intOf ix).toNat)
  case atStart => exact ⟨1, by omega, h1, rfl, HW2.out, HC2.out⟩
  case round =>
    obtain ⟨k, hk1, hkn, rfl, hk, hck⟩ := hrel
    by_cases hlt : k < n
    · have q1 : (k : Int) < (n : Int) := by omega
      have HCK := Lib.hid hck
      have HK := Lib.hid hk
      have s1 := fun W => slR_from W b2 n k hlt
      have s2 := fun W => slR_to W b2 n k hkn
      obtain ⟨j, hj⟩ : ∃ j, min k (n - k) = j := ⟨_, rfl⟩
      have hj1 : 1 ≤ j ∧ k + j ≤ n := by omega
      have hjk : j ≤ k := by omega
      have hwr : wrap64 ((k : Int) + (j : Int)) = ((k + j : Nat) : Int) := by unfold wrap64; omega
      have hro : rowHas ((wr.drew).heap[b2]?) (k * 15) (cat En.enc (List.replicate j e)).length = true := by
        rw [heap_drew, hk, rowHas_some, sq_size En.len, repE_len e n k hkn, cat_length En.len, List.length_replicate]
        refine decide_eq_true (show k * 15 + j * 15 ≤ n * 15 + ([] : List Value).length from ?_)
        simp; omega
      have hcp := ent_copyS wr.drew b2 0 n j (n - k) (n - k) k (some ⟨b2, 0, none⟩) (k * 15) (List.replicate j e) hj ⟨by rw [cat_length En.len, List.length_replicate], .inr ⟨b2, 0, _, _, _, rfl, hk, by
        rw [sq_toList, List.append_nil, List.drop_zero, cat_take En.len]
        unfold repE
        rw [List.take_append_of_le_length (by simp; omega), List.take_replicate, Nat.min_eq_left hjk]⟩⟩ hro
      have hw4 : (putRow wr.drew b2 (k * 15) (cat En.enc (List.replicate j e)).toArray).heap[b2]? = some (.cells (sq En.enc (repE e n (k + j)) []) 129 (0, 0)) := by
        rw [heap_putRow _ _ _ _ _ (by rw [List.size_toArray]; exact hro), if_pos rfl, heap_drew, hk]
        exact repE_put e n k j hj1.2 _ _
      have HW4 := Lib.hid hw4
      have HJ := Lib.hid hj1
      have HC4 := Lib.hid (hck.drew.putRow b2 (k * 15) (cat En.enc (List.replicate j e)).toArray (.inr (by rw [HB2.out]; exact Nat.le_refl _)))
      have HWR := Lib.hid hwr
      clear hk hck hj hj1 hjk hro hw4 hwr
      go_wp2_with fail
      go_region
      all_goals
        go_wp2_with fail
        go_roundw
        case rel => exact ⟨k + j, by have := HJ.out; omega, HJ.out.2, by rw [HWR.out], HW4.out, HC4.out⟩
        case measure => have := HJ.out; rw [HWR.out]; simp only [intOf]; omega
    · obtain rfl : k = n := by omega
      have HK := Lib.hid hk
      have HCK := Lib.hid hck
      clear hk hck
      go_wp2_with fail
      go_ret
      refine ⟨b2, rfl, ?_, by rw [HB2.out]; exact Nat.le_refl _, HCK.out⟩
      rw [← repE_all]
      exact HK.out
end Go.Proofs.YtcjoinhngdfdmaaGreatDoor
end
