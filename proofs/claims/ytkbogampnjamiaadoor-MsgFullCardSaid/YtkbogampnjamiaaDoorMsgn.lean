/- MsgNone, MsgForms, walked. No condition. -/
import Derived.Test.YtkbogampnjamiaaDoorMsgx
namespace Go.Proofs.YtkbogampnjamiaaDoor
open Go.RowKit
set_option linter.unusedVariables false
set_option maxHeartbeats 1000000
attribute [local go_sem ↓] append_appS copy_copS clear_clrS make_mkS slice_slS cell_row frozen_row loadLine storeLine loadMsg storeMsg loadHas storeHas heap_drew heap_drewN heap_alloc heap_past heap_setCell heap_putRow vs_get msc_kd msc_li msc_di msc_ke
attribute [local go_sem] rowCell_some rowFrozen_some rowHas_some rowIn_some rowPart_full rowPart_lit rowPut_full rowPut_lit rowSet_some size_putRow vs_size vs_one wideLine wideMsg wideHas run_loadS run_storeS run_appS run_copS run_clrS run_mkS run_slS loadW_at storeW_at fit_all fit_le one_int one_bool one_pointer one_slice allOne_list putRow_new ne_size1 ne_size2 ne_size3 ne_size4 zero8_length line_eq lit8 msc_size msc_one msc_part msc_in fold_msc
attribute [local simp ↓] heap_drew heap_drewN heap_alloc heap_past heap_setCell heap_putRow
attribute [local simp] rowCell_some rowFrozen_some rowHas_some rowIn_some rowPart_full rowPart_lit rowPut_full rowPut_lit rowSet_some size_putRow vs_size fit_all putRow_new ne_size1 ne_size2 ne_size3 ne_size4 zero8_length msc_size

attribute [local go_sem ↓] mlitZ msg_same msg_sameZ
attribute [local simp] mlitZ
set_option maxRecDepth 100000 in
theorem mnone_any (m : Ms) (W : World) (ht : Tab W) : Calls Tryd.prog 6 #[.agg (msc m)] W fun e w' => e = .returned (.bool true) ∧ Chg [] W w' := by
  have HT := Lib.hid ht
  clear ht
  go_enter Tryd.func6, Tryd.ntmps6
  try dsimp only [List.append]
  go_wp2_with fail
  have r0 : (W.alloc (.cells (msc m) 26)).heap[W.heap.size]? = some (.cells (msc m) 26 (0, 0)) := by simp
  have C0 := Lib.hid ((Chg.refl [] W).alloc (.cells (msc m) 26))
  generalize W.heap.size = p0 at r0 ⊢
  generalize W.alloc (.cells (msc m) 26) = w0 at r0 C0 ⊢
  refine (mclear_nil w0).mono ?_
  rintro e w1 ⟨rfl, rfl⟩
  go_wp2_with fail
  refine (mhead_nil w0).mono ?_
  rintro e w2 ⟨rfl, c2⟩
  have r2 := c2.keep r0 (by simp)
  have C2 := Lib.hid (C0.out.trans c2)
  clear r0 C0 c2
  have o2 := old r2
  go_wp2_with fail
  have c3 := (Chg.refl [] w2).alloc (.cells (msc msZ) 26)
  have r3 := c3.keep r2 (by simp)
  have s3 : (w2.alloc (.cells (msc msZ) 26)).heap[w2.heap.size]? = some (.cells (msc msZ) 26 (0, 0)) := by simp
  have C3 := Lib.hid (C2.out.trans c3)
  clear r2 C2 c3 o2
  generalize w2.heap.size = p2 at s3 ⊢
  generalize w2.alloc (.cells (msc msZ) 26) = w3 at r3 s3 C3 ⊢
  refine (mpop_nil w3).mono ?_
  rintro e w4 ⟨rfl, c4⟩
  have r4 := c4.keep r3 (by simp)
  have s4 := c4.keep s3 (by simp)
  have C4 := Lib.hid (C3.out.trans c4)
  clear r3 s3 C3 c4
  have o4 := old r4
  have o4' := old s4
  go_wp2_with fail
  have c5 := (Chg.refl [] w4).alloc (.cells (msc msZ) 26)
  have r5 := c5.keep r4 (by simp)
  have s5 := c5.keep s4 (by simp)
  have u5 : (w4.alloc (.cells (msc msZ) 26)).heap[w4.heap.size]? = some (.cells (msc msZ) 26 (0, 0)) := by simp
  have C5 := Lib.hid (C4.out.trans c5)
  clear r4 s4 C4 c5 o4 o4'
  generalize w4.heap.size = p4 at u5 ⊢
  generalize w4.alloc (.cells (msc msZ) 26) = w5 at r5 s5 u5 C5 ⊢
  refine (mpush_nil m w5).mono ?_
  rintro e w6 ⟨rfl, c6⟩
  have C6 := Lib.hid (C5.out.trans c6)
  clear r5 s5 u5 C5 c6
  go_wp2_with (first
    | (go_at_call 21; refine (len_nil _).mono ?_; rintro e w' ⟨rfl, rfl⟩)
    | (go_at_call 23; refine (mall_nil _).mono ?_; rintro e w' ⟨rfl, rfl⟩)
    | (go_at_call 16; refine (mwakes _ (HT.out.keep C6.out (by simp))).mono ?_; rintro e w7 ⟨rfl, c7⟩))
  go_ret
  exact ⟨rfl, C6.out.trans c7⟩

/-! ### MsgForms -/
theorem calls_aft_chg {P : Program} {f : FuncId} {args : Array Value} {N : Nat} {W : World} {x : Aft N W} {v : Value} (hN : N ≤ W.heap.size)
    (h : Calls P f args x.w fun e w' => e = .returned v ∧ Chg [] x.w w') : Calls P f args x.w fun e w'' => e = .returned v ∧ ∃ y : Aft N W, w'' = y.w :=
  calls_aft hN (h.mono fun _ _ ⟨he, hc⟩ => ⟨he, hc.below (Nat.le_refl _) (by simp)⟩)
theorem calls_aft_eq {P : Program} {f : FuncId} {args : Array Value} {N : Nat} {W : World} {x : Aft N W} {v : Value}
    (h : Calls P f args x.w fun e w' => e = .returned v ∧ x.w = w') : Calls P f args x.w fun e w'' => e = .returned v ∧ ∃ y : Aft N W, w'' = y.w :=
  calls_aft_same h
set_option maxRecDepth 100000 in
theorem mforms_any (m : Ms) (W : World) (ht : Tab W) : Calls Tryd.prog 3 #[.agg (msc m)] W fun e w' => e = .returned (.bool true) ∧ Chg [] W w' := by
  have HT := Lib.hid ht
  clear ht
  go_enter Tryd.func3, Tryd.ntmps3
  try dsimp only [List.append]
  go_wp2_with fail
  have r0 : (W.alloc (.cells (msc m) 26)).heap[W.heap.size]? = some (.cells (msc m) 26 (0, 0)) := by simp
  have C0 := Lib.hid ((Chg.refl [] W).alloc (.cells (msc m) 26))
  generalize W.heap.size = p0 at r0 ⊢
  generalize W.alloc (.cells (msc m) 26) = w0 at r0 C0 ⊢
  have hx : ∀ x : Aft w0.heap.size w0, x.w.heap[p0]? = some (.cells (msc m) 26 (0, 0)) := fun x => (x.block (old r0).lt).trans r0
  have HX := Lib.hid (show ∀ x : Aft w0.heap.size w0, Tab x.w from fun x => (HT.out.keep C0.out (by simp)).keep (Below.chg x.below (Nat.le_refl _)) (by simp))
  refine wp_region_aft w0.heap.size (by kernel_rfl) (by kernel_rfl) ?_
  repeat (go_big_quiet_step (first
     | (go_at_call 8; exact calls_aft_chg (Nat.le_refl _) (mgood_any m _ (HX.out _)))
     | (go_at_call 9; exact calls_aft_chg (Nat.le_refl _) (rgood_any m _))
     | (go_at_call 10; exact calls_aft_eq (asks_any _ _))
     | (go_at_call 11; exact calls_aft_eq (rasks_any _ _))
     | (go_at_call 12; exact calls_aft_eq (answers_any _ _))
     | (go_at_call 13; exact calls_aft_eq (ranswers_any _ _))
     | (go_at_call 14; exact calls_aft_eq (tells_any _ _))
     | (go_at_call 15; exact calls_aft_eq (rtells_any _ _))
     | (go_at_call 16; exact calls_aft_chg (Nat.le_refl _) (mwakes _ (HX.out _)))))
  refine wpQuiet_nil ?_
  rintro _ ⟨x, rfl⟩
  go_wp2_with fail
  go_ret
  exact ⟨rfl, C0.out.trans (Below.chg x.below (Nat.le_refl _))⟩
end Go.Proofs.YtkbogampnjamiaaDoor
