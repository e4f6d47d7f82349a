/- Two lists of lines compared: walked. No condition. -/
import Derived.Test.YtgpmhbkpagfjaaaNvmb
namespace Go.Proofs.Ytgpmhbkpagfjaaa
open Go.RowKit
set_option linter.unusedVariables false
attribute [local go_sem ↓] append_appS copy_copS clear_clrS make_mkS cell_row frozen_row loadLine storeLine heap_drew heap_drewN heap_alloc heap_past heap_setCell heap_putRow
attribute [local go_sem] rowCell_some rowFrozen_some rowHas_some rowIn_some rowPart_full rowPart_lit rowPut_full rowPut_lit rowSet_some size_putRow vs_size vs_one wideLine run_loadS run_storeS run_appS run_copS run_clrS run_mkS loadW_at storeW_at fit_all one_int one_bool one_pointer one_slice allOne_list putRow_new ne_size1 ne_size2 ne_size3 ne_size4 zero8_length lines_nil
attribute [local simp ↓] heap_drew heap_drewN heap_alloc heap_past heap_setCell heap_putRow
attribute [local simp] rowCell_some rowFrozen_some rowHas_some rowIn_some rowPart_full rowPart_lit rowPut_full rowPut_lit rowSet_some size_putRow vs_size fit_all putRow_new ne_size1 ne_size2 ne_size3 ne_size4 zero8_length


theorem line_eq (a b : List Int) (ha : a.length = 8) (hb : b.length = 8) (w : World) : (Op.equalIn 10000 42 (.agg (vs a)) (.agg (vs b))).run Try.prog w = .ok (a == b) w := by
  obtain ⟨i0, hi0⟩ : ∃ i, Try.prog.info? 36 = some i := Option.isSome_iff_exists.1 (by kernel_rfl)
  exact eq_ints_array w (k := .u64) Try.underlying42 hi0 Try.underlying36 (by kernel_rfl) a b ha hb
attribute [local go_sem] line_eq lit8
attribute [local go_sem ↓] vs_get

end Go.Proofs.Ytgpmhbkpagfjaaa
