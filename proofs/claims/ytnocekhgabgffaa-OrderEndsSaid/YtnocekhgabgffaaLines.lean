/- Two lists of lines compared: walked. No condition. -/
import Derived.Test.YtnocekhgabgffaaNvmb
namespace Go.Proofs.Ytnocekhgabgffaa
open Go.RowKit
set_option linter.unusedVariables false
attribute [local go_sem ↓] append_appS copy_copS clear_clrS make_mkS cell_row frozen_row loadLine storeLine heap_drew heap_drewN heap_alloc heap_past heap_setCell heap_putRow
attribute [local go_sem] rowCell_some rowFrozen_some rowHas_some rowIn_some rowPart_full rowPart_lit rowPut_full rowPut_lit rowSet_some size_putRow vs_size vs_one wideLine run_loadS run_storeS run_appS run_copS run_clrS run_mkS loadW_at storeW_at fit_all one_int one_bool one_pointer one_slice allOne_list putRow_new ne_size1 ne_size2 ne_size3 ne_size4 zero8_length lines_nil
attribute [local simp ↓] heap_drew heap_drewN heap_alloc heap_past heap_setCell heap_putRow
attribute [local simp] rowCell_some rowFrozen_some rowHas_some rowIn_some rowPart_full rowPart_lit rowPut_full rowPut_lit rowSet_some size_putRow vs_size fit_all putRow_new ne_size1 ne_size2 ne_size3 ne_size4 zero8_length


theorem line_eq (a b : List Int) (ha : a.length = 8) (hb : b.length = 8) (w : World) : (Op.equalIn 10000 44 (.agg (vs a)) (.agg (vs b))).run Try.prog w = .ok (a == b) w := by
  obtain ⟨i0, hi0⟩ : ∃ i, Try.prog.info? 39 = some i := Option.isSome_iff_exists.1 (by kernel_rfl)
  exact eq_ints_array w (k := .u64) Try.underlying44 hi0 Try.underlying39 (by kernel_rfl) a b ha hb
attribute [local go_sem] line_eq lit8
attribute [local go_sem ↓] vs_get

theorem lines_same (b o b' o' n c c' : Nat) (xs : List Int) (w : World) (h1 : Sl w 8 (some ⟨b, o, none⟩) n (xs.map (Value.int .u64))) (h2 : Sl w 8 (some ⟨b', o', none⟩) n (xs.map (Value.int .u64))) (hn : n ≤ 100000) :
    Calls Try.prog 11 #[.slice (some ⟨b, o, none⟩) n c, .slice (some ⟨b', o', none⟩) n c'] w fun e w' => e = .returned (.bool true) ∧ Chg [] w w' := by
  have H1 := Lib.hid h1
  have H2 := Lib.hid h2
  clear h1 h2
  go_enter Try.func11, Try.ntmps11
  go_wp2
  go_loopw [5] (fun i wr => ∃ k : Nat, k ≤ n ∧ i = .int .i64 k ∧ Chg [] w wr) (fun i _ => n - (intOf i).toNat)
  case atStart => exact ⟨0, by omega, rfl, Chg.refl _ _⟩
  case round =>
    obtain ⟨k, hk, rfl, hc⟩ := hrel
    by_cases hlt : k < n
    · obtain ⟨cs, t, f, hb, hi, hp, hl⟩ := (H1.out.chg hc (by simp)).line hlt
      obtain ⟨cs', t', f', hb', hi', hp', hl'⟩ := (H2.out.chg hc (by simp)).line hlt
      have g1 : (k : Int) < (n : Int) := by omega
      have g0 : (0 : Int) ≤ (k : Int) := by omega
      have g2 : (n : Int) ≤ 100000 := by omega
      go_wp2
      go_region
      all_goals
        go_wp2
        go_roundw
        case rel => exact ⟨k + 1, by omega, by go_num, hc.drew⟩
        case measure => simp [intOf]; omega
    · have : k = n := by omega
      subst this
      go_wp2
      go_ret
      exact ⟨rfl, hc⟩

end Go.Proofs.Ytnocekhgabgffaa
