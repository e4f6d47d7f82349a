/- ArrayNone, walked. No condition. -/
import Derived.Test.YtdfejijiocfjhaaArrw
import Derived.DeepKeys
namespace Go.Proofs.Ytdfejijiocfjhaa
open Go.RowKit
set_option linter.unusedVariables false
set_option maxHeartbeats 1000000
attribute [local go_sem ↓] append_appS copy_copS clear_clrS make_mkS cell_row frozen_row loadLine storeLine loadSlot storeSlot heap_drew heap_drewN heap_alloc heap_past heap_setCell heap_putRow vs_get slc_st slc_li slc_us
attribute [local go_sem] rowCell_some rowFrozen_some rowHas_some rowIn_some rowPart_full rowPart_lit rowPut_full rowPut_lit rowSet_some size_putRow vs_size vs_one wideLine wideSlot run_loadS run_storeS run_appS run_copS run_clrS run_mkS loadW_at storeW_at fit_all fit_le one_int one_bool one_pointer one_slice allOne_list putRow_new ne_size1 ne_size2 ne_size3 ne_size4 zero8_length line_eq lit8 slc_size slc_one slc_part slc_in fold_slt fold_slc slc_set_us
attribute [local simp ↓] heap_drew heap_drewN heap_alloc heap_past heap_setCell heap_putRow
attribute [local simp] rowCell_some rowFrozen_some rowHas_some rowIn_some rowPart_full rowPart_lit rowPut_full rowPut_lit rowSet_some size_putRow vs_size fit_all putRow_new ne_size1 ne_size2 ne_size3 ne_size4 zero8_length slc_size


theorem wideAStep : Wide Try.prog 35 11 := ⟨⟨_, Try.underlying35, by rfl⟩, by kernel_rfl⟩
theorem loadAStep (x : Value) : Instr.loadAt 35 x = loadS 35 11 x := rfl
theorem storeAStep (x y : Value) : Instr.storeAt 35 x y = storeS 35 11 x y := rfl
attribute [local go_sem ↓] loadRSlot storeRSlot loadAStep storeAStep
attribute [local go_sem] wideRSlot wideAStep
/-! ### ArrayNone -/
theorem slotZ_eq (w : World) : (Op.equalIn 10000 41 (.agg (slc sltZ)) (.agg (slc sltZ))).run Try.prog w = .ok true w := by
  obtain ⟨l, hl⟩ : ∃ l, Try.prog.keyLits 9 41 (Value.agg (slc sltZ)).cells.toList = some l := Option.isSome_iff_exists.1 (by kernel_rfl)
  obtain ⟨r, hr, hiff⟩ := run_equalIn_deep 9991 9 41 (by kernel_rfl) w 9 9 _ _ l l (by kernel_rfl) (by kernel_rfl) hl hl
  rw [hiff.2 rfl] at hr
  exact hr
theorem slotZ_lit (w : World) : (Op.equalIn 10000 41 (.agg (slc sltZ)) (.agg #[.int .i64 0, .int .i64 0, .int .u64 0, .int .u64 0, .int .u64 0, .int .u64 0, .int .u64 0, .int .u64 0, .int .u64 0, .int .u64 0, .int .i64 0])).run Try.prog w = .ok true w := slotZ_eq w
attribute [local go_sem ↓] slotZ_lit
theorem anone_any (k li st a0 a1 a2 a3 a4 a5 a6 a7 : Int) (W : World) :
    Calls Try.prog 5 #[.agg #[.int .i64 k, .int .i64 li, .int .i64 st, .int .u64 a0, .int .u64 a1, .int .u64 a2, .int .u64 a3, .int .u64 a4, .int .u64 a5, .int .u64 a6, .int .u64 a7]] W fun e w' => e = .returned (.bool true) ∧ Chg [] W w' := by
  go_enter Try.func5, Try.ntmps5
  try dsimp only [List.append]
  go_wp2_with fail
  have hx0 : (W.alloc (.cells #[.int .i64 k, .int .i64 li, .int .i64 st, .int .u64 a0, .int .u64 a1, .int .u64 a2, .int .u64 a3, .int .u64 a4, .int .u64 a5, .int .u64 a6, .int .u64 a7] 35)).heap[W.heap.size]? = some (.cells #[.int .i64 k, .int .i64 li, .int .i64 st, .int .u64 a0, .int .u64 a1, .int .u64 a2, .int .u64 a3, .int .u64 a4, .int .u64 a5, .int .u64 a6, .int .u64 a7] 35 (0, 0)) := by simp
  have HC0 := Lib.hid ((Chg.refl [] W).alloc (.cells #[.int .i64 k, .int .i64 li, .int .i64 st, .int .u64 a0, .int .u64 a1, .int .u64 a2, .int .u64 a3, .int .u64 a4, .int .u64 a5, .int .u64 a6, .int .u64 a7] 35))
  generalize W.alloc (.cells #[.int .i64 k, .int .i64 li, .int .i64 st, .int .u64 a0, .int .u64 a1, .int .u64 a2, .int .u64 a3, .int .u64 a4, .int .u64 a5, .int .u64 a6, .int .u64 a7] 35) = w0 at hx0 HC0 ⊢
  have ho := old hx0
  refine (atouch_nil li w0).mono ?_
  rintro e w1 ⟨rfl, c1⟩
  have hx1 := c1.keep hx0 (by simp)
  have ho1 := old hx1
  have C1 := Lib.hid (HC0.out.trans c1)
  clear hx0 ho c1
  go_wp2_with fail
  refine (afind_nil li w1).mono ?_
  rintro e w2 ⟨rfl, c2⟩
  have hx2 := c2.keep hx1 (by simp)
  have ho2 := old hx2
  have C2 := Lib.hid (C1.out.trans c2)
  clear hx1 ho1 c2
  go_wp2_with fail
  have hs3 : (w2.alloc (.cells (slc sltZ) 41)).heap[w2.heap.size]? = some (.cells (slc sltZ) 41 (0, 0)) := by simp
  have c3 := (Chg.refl [] w2).alloc (.cells (slc sltZ) 41)
  have hx3 := c3.keep hx2 (by simp)
  have C3 := Lib.hid (C2.out.trans c3)
  clear hx2 ho2 c3
  generalize w2.alloc (.cells (slc sltZ) 41) = w3 at hs3 hx3 C3 ⊢
  refine (aroom_nil li w3).mono ?_
  rintro e w4 ⟨rfl, c4⟩
  have hs4 := c4.keep hs3 (by simp)
  have hx4 := c4.keep hx3 (by simp)
  have ho4 := old hx4
  have os4 := old hs4
  have C4 := Lib.hid (C3.out.trans c4)
  clear hs3 hx3 c4
  go_wp2_with fail
  refine (asetl_nil li st [a0, a1, a2, a3, a4, a5, a6, a7] w4).mono ?_
  rintro e w5 ⟨rfl, c5⟩
  have hx5 := c5.keep hx4 (by simp)
  have ho5 := old hx5
  have C5 := Lib.hid (C4.out.trans c5)
  clear hx4 ho4 hs4 os4 c5
  go_wp2_with fail
  refine (adrop_nil li w5).mono ?_
  rintro e w6 ⟨rfl, c6⟩
  have C6 := Lib.hid (C5.out.trans c6)
  clear c6 hx5 ho5
  go_wp2_with fail
  refine (aslots_nil w6).mono ?_
  rintro e w7 ⟨rfl, rfl⟩
  go_wp2_with fail
  refine (wakes_true w6).mono ?_
  rintro e w7 ⟨rfl, c7⟩
  go_wp2_with fail
  go_ret
  exact ⟨rfl, C6.out.trans c7⟩
end Go.Proofs.Ytdfejijiocfjhaa
