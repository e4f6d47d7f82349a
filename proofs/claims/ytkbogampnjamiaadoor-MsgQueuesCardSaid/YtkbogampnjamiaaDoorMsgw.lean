/- A queue of messages: put in; messages compared; what all statements of the layer wake: walked. No condition. -/
import Derived.Test.YtkbogampnjamiaaDoorMsgp
import Derived.Test.YtkbogampnjamiaaDoorOpen
import Derived.Laws.StructEq
import Derived.ChangeKeysEq
namespace Go.Proofs.YtkbogampnjamiaaDoor
open Go.RowKit
set_option linter.unusedVariables false
set_option maxHeartbeats 1000000
attribute [local go_sem ↓] append_appS copy_copS clear_clrS make_mkS slice_slS cell_row frozen_row loadLine storeLine loadMsg storeMsg loadHas storeHas heap_drew heap_drewN heap_alloc heap_past heap_setCell heap_putRow vs_get msc_kd msc_li msc_di msc_ke
attribute [local go_sem] rowCell_some rowFrozen_some rowHas_some rowIn_some rowPart_full rowPart_lit rowPut_full rowPut_lit rowSet_some size_putRow vs_size vs_one wideLine wideMsg wideHas run_loadS run_storeS run_appS run_copS run_clrS run_mkS run_slS loadW_at storeW_at fit_all fit_le one_int one_bool one_pointer one_slice allOne_list putRow_new ne_size1 ne_size2 ne_size3 ne_size4 zero8_length line_eq lit8 msc_size msc_one msc_part msc_in fold_msc
attribute [local simp ↓] heap_drew heap_drewN heap_alloc heap_past heap_setCell heap_putRow
attribute [local simp] rowCell_some rowFrozen_some rowHas_some rowIn_some rowPart_full rowPart_lit rowPut_full rowPut_lit rowSet_some size_putRow vs_size fit_all putRow_new ne_size1 ne_size2 ne_size3 ne_size4 zero8_length msc_size

attribute [local go_sem ↓] mlitZ
attribute [local simp] mlitZ
theorem msg_slice (w : World) (m : Ms) : Sl ((w.alloc (.cells (msc m) 26)).drew) 12 (some ⟨w.heap.size, 0, none⟩) 1 (cat Ms.enc [m]) :=
  ⟨by rw [cat_length Ms.len]; rfl, .inr ⟨w.heap.size, 0, msc m, 26, (0, 0), rfl, by simp, by rw [cat_one]; simp [msc, Ms.len, List.take_of_length_le]⟩⟩
set_option maxRecDepth 100000 in
theorem mpush_nil (m : Ms) (w : World) : Calls Tryd.prog 17 #[.pointer none, .agg (msc m)] w fun e w' => e = .returned (.int .i64 1) ∧ Chg [] w w' := by
  go_enter Tryd.func17, Tryd.ntmps17
  go_wp2
  go_ret
  exact ⟨rfl, (Chg.refl _ _).alloc _⟩
set_option maxRecDepth 100000 in
theorem mpush_any {W w : World} {q be : Nat} {xs : List Ms} (h : Qu W w q be xs) (m : Ms) : Calls Tryd.prog 17 #[.pointer (some ⟨q, 0, none⟩), .agg (msc m)] w (QuTo W w q be (pushXs xs m) (.int .i64 (pushVal xs m))) := by
  have H := Lib.hid h
  clear h
  have r0 : (w.alloc (.cells (msc m) 26)).heap[w.heap.size]? = some (.cells (msc m) 26 (0, 0)) := by simp
  have C0 := Lib.hid ((Chg.refl [] w).alloc (.cells (msc m) 26))
  go_enter Tryd.func17, Tryd.ntmps17
  go_wp2_with fail
  generalize w.alloc (.cells (msc m) 26) = w1 at r0 C0 ⊢
  refine (mgood_any m w1 (H.out.stay C0.out).tab).mono ?_
  rintro e w2 ⟨rfl, c2⟩
  have r2 := c2.keep r0 (by simp)
  have o2 := old r2
  have C2 := Lib.hid (C0.out.trans c2)
  have H2 := Lib.hid (H.out.stay C2.out)
  clear r0 C0 c2
  cases hg : mg m
  · have E1 := Lib.hid (show pushVal xs m = 11 by simp [pushVal, hg])
    have E2 := Lib.hid (show pushXs xs m = xs by simp [pushXs, hg])
    clear hg
    go_wp2_with fail
    go_ret
    rw [E1.out, E2.out]
    exact ⟨rfl, be, H2.out, C2.out.mono (by simp), .inl rfl⟩
  · by_cases hf : 1000 ≤ xs.length
    · have E1 := Lib.hid (show pushVal xs m = 13 by simp [pushVal, hg, hf])
      have E2 := Lib.hid (show pushXs xs m = xs by simp [pushXs]; omega)
      obtain ⟨_, _, _, _, _, A, cap, h6, h7⟩ := H2.out
      have oq := old h6
      have t1 : decide ((1000 : Int) ≤ (xs.length : Int)) = true := by simp; omega
      clear hg h7 hf
      go_wp2_with fail
      go_ret
      rw [E1.out, E2.out]
      exact ⟨rfl, be, H2.out, C2.out.mono (by simp), .inl rfl⟩
    · have hx : pushXs xs m = xs ++ [m] := by simp [pushXs, hg]; omega
      have HF := Lib.hid hf
      have HX := Lib.hid hx
      have E1 := Lib.hid (show pushVal xs m = 0 by simp [pushVal, hg]; omega)
      obtain ⟨a1, a2, a3, a4, a5, A, cap, h6, h7⟩ := H2.out
      have oq := old h6
      have t1 : decide ((1000 : Int) ≤ (xs.length : Int)) = false := by simp; omega
      have ca := ((Chg.refl [] w2).alloc (.cells (msc m) 26)).drew
      obtain ⟨be', cap', A', w3, happ, hv2, hbe, hc2, hqq⟩ := (h7.keep ca (by simp)).app (ty := 32) eltMsg (oq.chg ca) (msg_slice w2 m) (c := 1) rfl (by omega) (by unfold maxLen; omega)
      have hq2 : w3.heap[q]? = some (.cells #[.slice A xs.length cap] 34 (0, 0)) := by rw [hqq]; exact ca.keep h6 (by simp)
      have HV2 := Lib.hid hv2
      have HB := Lib.hid hbe
      have HC2 := Lib.hid hc2
      have HCA := Lib.hid ca
      clear hg hf hx h7 hv2 hbe hc2 hqq ca a1 a5
      go_wp2_with fail
      go_region
      all_goals
        go_wp2
        go_ret
        have hsz : w.heap.size ≤ w2.heap.size := C2.out.size
        have hne : be' ≠ q := by
          obtain ⟨x, l, hl⟩ : ∃ x l, xs ++ [m] = x :: l := by cases xs <;> simp
          exact ((hl ▸ HV2.out).first Ms.len).1
        have hbn : be' = be ∨ w.heap.size ≤ be' := by
          have h1 := HB.out
          have h3 : ((w2.alloc (.cells (msc m) 26)).drew).heap.size = w2.heap.size + 1 := by simp
          omega
        have C9 : Chg [q, be] w (w3.setCell ⟨q, 0, none⟩ (.slice A' (xs.length + 1) cap')) := (((C2.out.trans HCA.out).mono (l' := [q, be]) (by simp)).trans' HC2.out (by simp)).setCell _ _ _ (.inl (by simp))
        rw [E1.out, HX.out]
        refine ⟨rfl, be', ⟨H.out.1.trans' C9 (by simp; exact ⟨a3, a4⟩), a2, a3, ?_, by have := HF.out; simp; omega, A', cap', ?_, ?_⟩, C9, hbn⟩
        · have := H.out.1.size
          rcases hbn with rfl | h
          · exact a4
          · omega
        · simp [hq2]
        · exact HV2.out.keep ((Chg.refl [q] w3).setCell _ _ _ (.inl (by simp))) (by simpa using hne)

/-! ### Messages compared -/
theorem line_part (m : Ms) (w : World) : (part 24 (msc m) 4).run Tryd.prog w = .ok (.agg (vs m.l)) w := by
  obtain ⟨i, hi⟩ : ∃ i, Tryd.prog.info? 24 = some i := Option.isSome_iff_exists.1 (by kernel_rfl)
  have hc : Tryd.prog.cellsOf 24 = 8 := by kernel_rfl
  have he : (msc m).extract 4 (4 + 8) = vs m.l := by
    apply Array.ext'
    rw [Array.toList_extract]
    have := m.h
    simp [msc, Ms.enc, vs, List.extract, List.take_of_length_le, this]
  simp [part, isAgg, run_underlying Tryd.underlying24, run_sizeOf w hi, hc, he]
theorem msg_same (m : Ms) (w : World) : (Op.equalIn 10000 26 (.agg (msc m)) (.agg (msc m))).run Tryd.prog w = .ok true w := by
  have h0 := run_part_plain (P := Tryd.prog) w (e := 3) (by kernel_rfl) (msc_kd m)
  have h1 := run_part_plain (P := Tryd.prog) w (e := 3) (by kernel_rfl) (msc_li m)
  have h2 := run_part_plain (P := Tryd.prog) w (e := 4) (by kernel_rfl) (msc_di m)
  have h3 := run_part_plain (P := Tryd.prog) w (e := 4) (by kernel_rfl) (msc_ke m)
  have h4 := line_part m w
  have e0 := fun a => run_equalIn_int w 9998 3 .i64 .i64 a a Tryd.underlying3
  have e1 := fun a => run_equalIn_bool w 9998 4 a a Tryd.underlying4
  have e2 : (Op.equalIn 9999 24 (.agg (vs m.l)) (.agg (vs m.l))).run Tryd.prog w = .ok true w := by
    obtain ⟨i0, hi0⟩ : ∃ i, Tryd.prog.info? 22 = some i := Option.isSome_iff_exists.1 (by kernel_rfl)
    rw [run_equalIn_array w 9998 _ _ Tryd.underlying24 hi0, show Tryd.prog.cellsOf 22 = 1 by kernel_rfl]
    have := eqItems_ints (P := Tryd.prog) w 9997 (k := .u64) Tryd.underlying22 (by kernel_rfl) m.l m.l (List.range 8) (by intro i hi; have := m.h; simp at hi; omega)
    unfold vs
    rw [this]
    simp
  rw [run_equalIn_struct w 9999 26 _ _ (by simp only [Program.fieldsOf, Tryd.underlying26]) (by kernel_rfl)]
  simp only [Program.fieldsOf, Tryd.underlying26]
  simp [Op.eqFields, h0, h1, h2, h3, h4, e0, e1, e2]
theorem msg_sameZ (w : World) : (Op.equalIn 10000 26 (.agg (msc msZ)) (.agg #[.int .i64 0, .int .i64 0, .bool false, .bool false, .int .u64 0, .int .u64 0, .int .u64 0, .int .u64 0, .int .u64 0, .int .u64 0, .int .u64 0, .int .u64 0])).run Tryd.prog w = .ok true w := msg_same msZ w
attribute [local go_sem ↓] msg_same msg_sameZ
theorem msgs_same (A B : Option Addr) (n c c' : Nat) (xs : List Ms) (w : World) (h1 : Sl w 12 A n (cat Ms.enc xs)) (h2 : Sl w 12 B n (cat Ms.enc xs)) (hl : n = xs.length) (hn : n ≤ 100000) :
    Calls Tryd.prog 22 #[.slice A n c, .slice B n c'] w fun e w' => e = .returned (.bool true) ∧ Chg [] w w' := by
  have H1 := Lib.hid h1
  have H2 := Lib.hid h2
  have HL := Lib.hid hl
  clear h1 h2 hl
  go_enter Tryd.func22, Tryd.ntmps22
  have tn : ((n : Int) != (n : Int)) = false := by simp
  go_wp2
  go_loopw [5] (fun i wr => ∃ k : Nat, k ≤ n ∧ i = .int .i64 k ∧ Chg [] w wr) (fun i _ => n - (intOf i).toNat)
  case atStart => exact ⟨0, by omega, rfl, Chg.refl _ _⟩
  case round =>
    obtain ⟨k, hk, rfl, hc⟩ := hrel
    by_cases hlt : k < n
    · obtain ⟨b, o, rfl⟩ := H1.out.addr (by omega)
      obtain ⟨b', o', rfl⟩ := H2.out.addr (by omega)
      obtain ⟨y, hy⟩ : ∃ y, xs[k]? = some y := ⟨xs[k]'(by rw [← HL.out]; exact hlt), List.getElem?_eq_getElem _⟩
      obtain ⟨cs, t, f, hb, _, hpa⟩ := (H1.out.chg hc (by simp)).elem (by omega) hlt (cat_part Ms.len hy)
      obtain ⟨cs', t', f', hb', _, hpa'⟩ := (H2.out.chg hc (by simp)).elem (by omega) hlt (cat_part Ms.len hy)
      have e12 : ((Ms.enc y).drop 0 |>.take 12).toArray = msc y := by rw [List.drop_zero, List.take_of_length_le (by rw [Ms.len]; exact Nat.le_refl _)]; rfl
      obtain ⟨r1, r2⟩ := hpa 0 12 (by omega)
      obtain ⟨s1, s2⟩ := hpa' 0 12 (by omega)
      rw [e12, Nat.add_zero] at r2 s2
      rw [Nat.add_zero] at r1 s1
      have g1 : (k : Int) < (n : Int) := by omega
      have g0 : (0 : Int) ≤ (k : Int) := by omega
      have g2 : (n : Int) ≤ 100000 := by omega
      have HC := Lib.hid hc
      clear hy hc hpa hpa' e12
      go_wp2
      go_quiet (fail)
      go_wp2
      go_roundw
      case rel => exact ⟨k + 1, by omega, by go_num, HC.out.drewN _⟩
      case measure => simp [intOf]; omega
    · have : k = n := by omega
      subst this
      go_wp2
      go_ret
      exact ⟨rfl, hc⟩
end Go.Proofs.YtkbogampnjamiaaDoor
