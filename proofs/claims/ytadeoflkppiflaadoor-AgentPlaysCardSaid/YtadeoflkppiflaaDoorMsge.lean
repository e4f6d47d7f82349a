/- Messages compared: walked. No condition. -/
import Derived.Test.YtadeoflkppiflaaDoorMsg
import Derived.Test.YtadeoflkppiflaaDoorOpen
import Derived.Test.YtadeoflkppiflaaDoorArgs
import Derived.Laws.StructEq
import Derived.ChangeKeysEq
import Derived.BigQuiet
namespace Go.Proofs.YtadeoflkppiflaaDoor
open Go.RowKit
set_option linter.unusedVariables false
set_option maxHeartbeats 1000000
attribute [local go_sem ↓] append_appS copy_copS clear_clrS make_mkS slice_slS cell_row frozen_row loadLine storeLine loadMsg storeMsg loadHas storeHas heap_drew heap_drewN heap_alloc heap_past heap_setCell heap_putRow vs_get msc_kd msc_li msc_di msc_ke
attribute [local go_sem] rowCell_some rowFrozen_some rowHas_some rowIn_some rowPart_full rowPart_lit rowPut_full rowPut_lit rowSet_some size_putRow vs_size vs_one wideLine wideMsg wideHas run_loadS run_storeS run_appS run_copS run_clrS run_mkS run_slS loadW_at storeW_at fit_all fit_le one_int one_bool one_pointer one_slice allOne_list putRow_new ne_size1 ne_size2 ne_size3 ne_size4 zero8_length line_eq lit8 msc_size msc_one msc_part msc_in fold_msc
attribute [local simp ↓] heap_drew heap_drewN heap_alloc heap_past heap_setCell heap_putRow
attribute [local simp] rowCell_some rowFrozen_some rowHas_some rowIn_some rowPart_full rowPart_lit rowPut_full rowPut_lit rowSet_some size_putRow vs_size fit_all putRow_new ne_size1 ne_size2 ne_size3 ne_size4 zero8_length msc_size

/-! ### Messages compared -/
theorem line_part (m : Ms) (w : World) : (part 33 (msc m) 4).run Tryd.prog w = .ok (.agg (vs m.l)) w := by
  obtain ⟨i, hi⟩ : ∃ i, Tryd.prog.info? 33 = some i := Option.isSome_iff_exists.1 (by kernel_rfl)
  have hc : Tryd.prog.cellsOf 33 = 8 := by kernel_rfl
  have he : (msc m).extract 4 (4 + 8) = vs m.l := by
    apply Array.ext'
    rw [Array.toList_extract]
    have := m.h
    simp [msc, Ms.enc, vs, List.extract, List.take_of_length_le, this]
  first
    | (simp [part, isAgg, run_underlying Tryd.underlying33, he]; done)
    | (simp [part, isAgg, run_underlying Tryd.underlying33, hc, he]; done)
    | (simp [part, isAgg, run_underlying Tryd.underlying33, run_sizeOf w hi, he]; done)
theorem msg_same (m : Ms) (w : World) : (Op.equalIn 10000 35 (.agg (msc m)) (.agg (msc m))).run Tryd.prog w = .ok true w := by
  have h0 := run_part_plain (P := Tryd.prog) w (e := 3) (by kernel_rfl) (msc_kd m)
  have h1 := run_part_plain (P := Tryd.prog) w (e := 3) (by kernel_rfl) (msc_li m)
  have h2 := run_part_plain (P := Tryd.prog) w (e := 4) (by kernel_rfl) (msc_di m)
  have h3 := run_part_plain (P := Tryd.prog) w (e := 4) (by kernel_rfl) (msc_ke m)
  have h4 := line_part m w
  have e0 := fun a => run_equalIn_int w 9998 3 .i64 .i64 a a Tryd.underlying3
  have e1 := fun a => run_equalIn_bool w 9998 4 a a Tryd.underlying4
  have e2 : (Op.equalIn 9999 33 (.agg (vs m.l)) (.agg (vs m.l))).run Tryd.prog w = .ok true w := by
    obtain ⟨i0, hi0⟩ : ∃ i, Tryd.prog.info? 31 = some i := Option.isSome_iff_exists.1 (by kernel_rfl)
    rw [run_equalIn_array w 9998 _ _ Tryd.underlying33 hi0, show Tryd.prog.cellsOf 31 = 1 by kernel_rfl]
    have := eqItems_ints (P := Tryd.prog) w 9997 (k := .u64) Tryd.underlying31 (by kernel_rfl) m.l m.l (List.range 8) (by intro i hi; have := m.h; simp at hi; omega)
    unfold vs
    rw [this]
    simp
  rw [run_equalIn_struct w 9999 35 _ _ (by simp only [Program.fieldsOf, Tryd.underlying35]) (by kernel_rfl)]
  simp only [Program.fieldsOf, Tryd.underlying35]
  simp [Op.eqFields, h0, h1, h2, h3, h4, e0, e1, e2]
theorem msg_sameZ (w : World) : (Op.equalIn 10000 35 (.agg (msc msZ)) (.agg #[.int .i64 0, .int .i64 0, .bool false, .bool false, .int .u64 0, .int .u64 0, .int .u64 0, .int .u64 0, .int .u64 0, .int .u64 0, .int .u64 0, .int .u64 0])).run Tryd.prog w = .ok true w := msg_same msZ w
attribute [local go_sem ↓] msg_same msg_sameZ
theorem msgs_same (A B : Option Addr) (n c c' : Nat) (xs : List Ms) (w : World) (h1 : Sl w 12 A n (cat Ms.enc xs)) (h2 : Sl w 12 B n (cat Ms.enc xs)) (hl : n = xs.length) (hn : n ≤ 100000) :
    Calls Tryd.prog 9 #[.slice A n c, .slice B n c'] w fun e w' => e = .returned (.bool true) ∧ Chg [] w w' := by
  have H1 := Lib.hid h1
  have H2 := Lib.hid h2
  have HL := Lib.hid hl
  clear h1 h2 hl
  go_enter Tryd.func9, Tryd.ntmps9
  have tn : ((n : Int) != (n : Int)) = false := by simp
  go_wp2
  go_loopw [5] (fun i wr => ∃ k : Nat, k ≤ n ∧ i = .int .i64 k ∧ Chg [] w wr) (fun i _ => n - (intOf i).toNat)
  case atStart => exact ⟨0, by omega, rfl, Chg.refl _ _⟩
  case round =>
    obtain ⟨k, hk, rfl, hc⟩ := hrel
    by_cases hlt : k < n
    · obtain ⟨b, o, rfl⟩ := H1.out.addr (by omega)
      obtain ⟨b', o', rfl⟩ := H2.out.addr (by omega)
      obtain ⟨y, hy⟩ : ∃ y, xs[k]? = some y := ⟨xs[k]'(by rw [← HL.out]; exact hlt), List.getElem?_eq_getElem _⟩
      obtain ⟨cs, t, f, hb, _, hpa⟩ := (H1.out.chg hc (by simp)).elem (by omega) hlt (cat_part Ms.len hy)
      obtain ⟨cs', t', f', hb', _, hpa'⟩ := (H2.out.chg hc (by simp)).elem (by omega) hlt (cat_part Ms.len hy)
      have e12 : ((Ms.enc y).drop 0 |>.take 12).toArray = msc y := by rw [List.drop_zero, List.take_of_length_le (by rw [Ms.len]; exact Nat.le_refl _)]; rfl
      obtain ⟨r1, r2⟩ := hpa 0 12 (by omega)
      obtain ⟨s1, s2⟩ := hpa' 0 12 (by omega)
      rw [e12, Nat.add_zero] at r2 s2
      rw [Nat.add_zero] at r1 s1
      have g1 : (k : Int) < (n : Int) := by omega
      have g0 : (0 : Int) ≤ (k : Int) := by omega
      have g2 : (n : Int) ≤ 100000 := by omega
      have HC := Lib.hid hc
      clear hy hc hpa hpa' e12
      go_wp2
      go_quiet (fail)
      go_wp2
      go_roundw
      case rel => exact ⟨k + 1, by omega, by go_num, HC.out.drewN _⟩
      case measure => simp [intOf]; omega
    · have : k = n := by omega
      subst this
      go_wp2
      go_ret
      exact ⟨rfl, hc⟩
end Go.Proofs.YtadeoflkppiflaaDoor
