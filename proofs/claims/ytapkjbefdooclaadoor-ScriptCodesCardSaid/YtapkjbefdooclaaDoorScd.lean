/- Calls of package script on one act, and the document's: walked. No condition. -/
import Derived.Test.YtapkjbefdooclaaDoorScc
import Derived.Test.YtapkjbefdooclaaDoorOpen
import Derived.Test.YtapkjbefdooclaaDoorArgs
import Derived.Test.YtapkjbefdooclaaDoorChecked
import Derived.Laws.LoneSync
import Derived.Lib.SliceRun
import Derived.Deep.RegionHeld3
import Derived.Deep.RegionWith
import Derived.Laws.StructEq
import Derived.ChangeKeysEq
import Derived.BigQuiet
import Derived.BigRegion
import Derived.Deep.QuietTactic
namespace Go.Proofs.YtapkjbefdooclaaDoor
open Go.RowKit
set_option linter.unusedVariables false
set_option maxHeartbeats 1000000

set_option maxRecDepth 100000
attribute [local go_sem ↓] append_appS copy_copS clear_clrS make_mkS slice_slS index_ixS conv_cvS cell_row frozen_row loadAct storeAct heap_drew heap_drewN heap_alloc heap_past heap_setCell heap_putRow sac_kd sac_co sac_li act_eqIn
attribute [local go_sem] rowCell_some rowFrozen_some rowHas_some rowIn_some rowPart_full rowPart_lit rowPut_full rowPut_lit rowSet_some size_putRow wideAct run_loadS run_storeS run_appS run_copS run_clrS run_mkS run_slS run_ixS run_cvS loadW_at storeW_at fit_all fit_le one_int one_bool one_pointer one_slice allOne_list putRow_new ne_size1 ne_size2 ne_size3 ne_size4 sac_size sac_one fold_sac fold_sac2 str_size sac_lit sac_ne sac_set0 sac_set1 sac_set2
attribute [local simp ↓] heap_drew heap_drewN heap_alloc heap_past heap_setCell heap_putRow
attribute [local simp] rowCell_some rowFrozen_some rowHas_some rowIn_some rowPart_full rowPart_lit rowPut_full rowPut_lit rowSet_some size_putRow fit_all putRow_new ne_size1 ne_size2 ne_size3 ne_size4 sac_size
theorem act_info : (Tryd.prog.info? 31).map (fun i => (i.zero, i.size, i.bytes)) = some (some (.agg (sac ⟨0, 0, 0⟩)), 3, 24) := by kernel_rfl
theorem eltAct : Elt Tryd.prog 22 31 3 24 (.agg (sac ⟨0, 0, 0⟩)) Sact.enc where
  slice := Tryd.underlying22
  info := act_info
  zero := rfl
  zone := by intro v hv; exact Sact.one ⟨0, 0, 0⟩ v (by simpa [Value.cells, sac] using hv)
  pos := by omega
  len := Sact.len
  one := Sact.one
theorem byte_info : (Tryd.prog.info? 5).map (fun i => (i.zero, i.size, i.bytes)) = some (some (.int .u8 0), 1, 1) := by kernel_rfl
theorem eltByte : Elt Tryd.prog 40 5 1 1 (.int .u8 0) benc where
  slice := Tryd.underlying40
  info := byte_info
  zero := rfl
  zone := by intro v hv; simp [Value.cells] at hv; subst hv; rfl
  pos := by omega
  len := benc_len
  one := benc_one
theorem take_ne {xs ys : List Sact} {k : Nat} {x y : Sact} (hx : xs[k]? = some x) (hy : ys[k]? = some y) (h : x ≠ y) : xs ≠ ys := by
  rintro rfl
  rw [hx] at hy
  injection hy with e
  exact h e
theorem take_more {xs ys : List Sact} {k : Nat} {x : Sact} (hx : xs[k]? = some x) (hy : ys[k]? = some x) (h : xs.take k = ys.take k) : xs.take (k + 1) = ys.take (k + 1) := by
  obtain ⟨h1, e1⟩ := List.getElem?_eq_some_iff.1 hx
  obtain ⟨h2, e2⟩ := List.getElem?_eq_some_iff.1 hy
  rw [List.take_succ_eq_append_getElem h1, List.take_succ_eq_append_getElem h2, e1, e2, h]
theorem kacts_any {A B : Option Addr} {n m c c' : Nat} {xs ys : List Sact} (w : World) (h1 : Sl w 3 A n (cat Sact.enc xs)) (h2 : Sl w 3 B m (cat Sact.enc ys)) (hl : xs.length = n) (hm : ys.length = m) (h5 : n ≤ 100000) :
    Calls Tryd.prog 12 #[.slice A n c, .slice B m c'] w fun e w' => e = .returned (.bool (decide (xs = ys))) ∧ Chg [] w w' := by
  by_cases hnm : n = m
  · subst hnm
    have H1 := Lib.hid h1
    have H2 := Lib.hid h2
    have HL := Lib.hid hl
    have HM := Lib.hid hm
    clear h1 h2 hl hm
    go_enter Tryd.func12, Tryd.ntmps12
    have tn : ((n : Int) != (n : Int)) = false := by simp
    go_wp2
    go_loopw [5] (fun i wr => ∃ k : Nat, k ≤ n ∧ i = .int .i64 k ∧ xs.take k = ys.take k ∧ Chg [] w wr) (fun i _ => n - (intOf i).toNat)
    case atStart => exact ⟨0, by omega, rfl, rfl, Chg.refl _ _⟩
    case round =>
      obtain ⟨k, hk, rfl, hxy, hc⟩ := hrel
      have HXY := Lib.hid hxy
      clear hxy
      by_cases hlt : k < n
      · obtain ⟨b, o, rfl⟩ := H1.out.addr (by omega)
        obtain ⟨b', o', rfl⟩ := H2.out.addr (by omega)
        obtain ⟨x, hx⟩ : ∃ x, xs[k]? = some x := ⟨xs[k]'(by rw [HL.out]; exact hlt), List.getElem?_eq_getElem _⟩
        obtain ⟨y, hy⟩ : ∃ y, ys[k]? = some y := ⟨ys[k]'(by rw [HM.out]; exact hlt), List.getElem?_eq_getElem _⟩
        obtain ⟨cs, t, f, hb, _, hpa⟩ := (H1.out.chg hc (by simp)).elem (by omega) hlt (cat_part Sact.len hx)
        obtain ⟨cs', t', f', hb', _, hpa'⟩ := (H2.out.chg hc (by simp)).elem (by omega) hlt (cat_part Sact.len hy)
        obtain ⟨r1, r2⟩ := hpa 0 3 (by omega)
        obtain ⟨s1, s2⟩ := hpa' 0 3 (by omega)
        rw [show ((Sact.enc x).drop 0 |>.take 3).toArray = sac x from rfl, Nat.add_zero] at r2
        rw [show ((Sact.enc y).drop 0 |>.take 3).toArray = sac y from rfl, Nat.add_zero] at s2
        rw [Nat.add_zero] at r1 s1
        have g1 : (k : Int) < (n : Int) := by omega
        have g0 : (0 : Int) ≤ (k : Int) := by omega
        have g2 : (n : Int) ≤ 100000 := by omega
        have HC := Lib.hid hc
        have HX := Lib.hid hx
        have HY := Lib.hid hy
        have HK := Lib.hid hlt
        clear hx hy hc hpa hpa' hlt hk
        by_cases hq : x = y
        · subst hq
          have tq : decide (x = x) = true := by simp
          go_wp2
          go_quiet (fail)
          go_wp2
          go_roundw
          case rel => exact ⟨k + 1, by have := HK.out; omega, by go_num, take_more HX.out HY.out HXY.out, HC.out.drewN _⟩
          case measure => have := HK.out; simp [intOf]; omega
        · have tq : decide (x = y) = false := by simpa using hq
          have HQ := Lib.hid hq
          clear hq
          go_wp2
          go_quiet (fail)
          go_wp2
          go_ret
          exact ⟨by rw [decide_eq_false (take_ne HX.out HY.out HQ.out)]; rfl, HC.out.drewN _⟩
      · have : k = n := by omega
        subst this
        have e : xs = ys := by
          have := HXY.out
          rwa [List.take_of_length_le (by rw [HL.out]; exact Nat.le_refl _), List.take_of_length_le (by rw [HM.out]; exact Nat.le_refl _)] at this
        have E := Lib.hid e
        clear e
        go_wp2
        go_ret
        exact ⟨by rw [decide_eq_true E.out]; rfl, hc⟩
  · have tn : ((n : Int) != (m : Int)) = true := by simp; omega
    have hne : xs ≠ ys := by rintro rfl; omega
    rw [decide_eq_false hne]
    clear hnm hl hm h1 h2 hne
    go_enter Tryd.func12, Tryd.ntmps12
    go_wp2
    go_ret
    exact ⟨rfl, Chg.refl _ _⟩
end Go.Proofs.YtapkjbefdooclaaDoor
