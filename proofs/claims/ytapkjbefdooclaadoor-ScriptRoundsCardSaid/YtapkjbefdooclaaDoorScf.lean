/- Calls of package script on one act, and the document's: walked. No condition. -/
import Derived.Test.YtapkjbefdooclaaDoorSce
import Derived.Test.YtapkjbefdooclaaDoorOpen
import Derived.Test.YtapkjbefdooclaaDoorArgs
import Derived.Test.YtapkjbefdooclaaDoorChecked
import Derived.Laws.LoneSync
import Derived.Lib.SliceRun
import Derived.Deep.RegionHeld3
import Derived.Deep.RegionWith
import Derived.Laws.StructEq
import Derived.ChangeKeysEq
import Derived.BigQuiet
import Derived.BigRegion
import Derived.Deep.QuietTactic
namespace Go.Proofs.YtapkjbefdooclaaDoor
open Go.RowKit
set_option linter.unusedVariables false
set_option maxHeartbeats 1000000

set_option maxRecDepth 100000
attribute [local go_sem ↓] append_appS copy_copS clear_clrS make_mkS slice_slS index_ixS conv_cvS cell_row frozen_row loadAct storeAct heap_drew heap_drewN heap_alloc heap_past heap_setCell heap_putRow sac_kd sac_co sac_li act_eqIn
attribute [local go_sem] rowCell_some rowFrozen_some rowHas_some rowIn_some rowPart_full rowPart_lit rowPut_full rowPut_lit rowSet_some size_putRow wideAct run_loadS run_storeS run_appS run_copS run_clrS run_mkS run_slS run_ixS run_cvS loadW_at storeW_at fit_all fit_le one_int one_bool one_pointer one_slice allOne_list putRow_new ne_size1 ne_size2 ne_size3 ne_size4 sac_size sac_one fold_sac fold_sac2 str_size sac_lit sac_ne sac_set0 sac_set1 sac_set2
attribute [local simp ↓] heap_drew heap_drewN heap_alloc heap_past heap_setCell heap_putRow
attribute [local simp] rowCell_some rowFrozen_some rowHas_some rowIn_some rowPart_full rowPart_lit rowPut_full rowPut_lit rowSet_some size_putRow fit_all putRow_new ne_size1 ne_size2 ne_size3 ne_size4 sac_size
def strLen : Value → Nat
  | .string s => s.size
  | _ => 0
theorem strLen_str (l : List UInt8) : strLen (.string (str l)) = l.length := str_size l
theorem three {r : List UInt8} (h : 3 ≤ r.length) : ∃ a b c r', r = a :: b :: c :: r' := by
  match r, h with
  | a :: b :: c :: r', _ => exact ⟨a, b, c, r', rfl⟩
/-- A slice of acts that was made. -/
def ToldA (W : World) (q : Nat) (l : List Sact) (e : Ending) (w' : World) : Prop := ∃ A c be, e = .returned (.slice A l.length c) ∧ Vec 3 31 Sact.enc w' q be A c l ∧ (be = q ∨ W.heap.size ≤ be) ∧ Chg [] W w'
theorem sdecode_any (b : List UInt8) (W : World) (ht : KTab W) (h5 : b.length ≤ 100000) :
    Calls Tryd.prog 13 #[.string (str b)] W (ToldA W 0 (decL b)) := by
  have HT := Lib.hid ht
  have HQ := Lib.hid ht.old
  have H5 := Lib.hid h5
  clear ht h5
  go_enter Tryd.func13, Tryd.ntmps13
  go_wp2_with fail
  go_loopw [0, 3] (fun s o wr => ∃ (r : List UInt8) (ys : List Sact) (be cap : Nat) (A' : Option Addr), s = .string (str r) ∧ o = .slice A' ys.length cap ∧ decL b = ys ++ decL r ∧ r.length ≤ b.length ∧ Vec 3 31 Sact.enc wr 0 be A' cap ys ∧ (be = 0 ∨ W.heap.size ≤ be) ∧ Chg [] W wr) (fun s _ _ => strLen s)
  case atStart => exact ⟨b, [], _, 0, none, rfl, rfl, rfl, Nat.le_refl _, Vec.nil .., .inl rfl, Chg.refl _ _⟩
  case round =>
    obtain ⟨r, ys, be, cap, A', rfl, rfl, hd, hr, hv, hbe, hc⟩ := hrel
    have HD := Lib.hid hd
    have HR := Lib.hid hr
    have HV := Lib.hid hv
    have HBE := Lib.hid hbe
    have HC := Lib.hid hc
    have HY := Lib.hid (show ys.length ≤ 100000 by have := decL_len b; rw [hd] at this; simp at this; have := H5.out; omega)
    clear hd hr hv hbe hc
    by_cases h3 : 3 ≤ r.length
    · obtain ⟨x, y, z, r', rfl⟩ := three h3
      have g3 : (3 : Int) ≤ (strN (x :: y :: z :: r') : Int) := by unfold strN; omega
      have i0 : ∀ w, ixR Tryd.prog 9 (.string (str (x :: y :: z :: r'))) (.int .i64 0) w = .ok (.int .u8 (byI x)) w := ix_at Tryd.underlying9 _ 0 x rfl
      have i1 : ∀ w, ixR Tryd.prog 9 (.string (str (x :: y :: z :: r'))) (.int .i64 1) w = .ok (.int .u8 (byI y)) w := ix_at Tryd.underlying9 _ 1 y rfl
      have i2 : ∀ w, ixR Tryd.prog 9 (.string (str (x :: y :: z :: r'))) (.int .i64 2) w = .ok (.int .u8 (byI z)) w := ix_at Tryd.underlying9 _ 2 z rfl
      have i3 : ∀ w, slR Tryd.prog 9 (.string (str (x :: y :: z :: r'))) (some (.int .i64 3)) none none w = .ok (.string (str r')) w := sl_from Tryd.underlying9 _ 3 h3
      obtain ⟨b1, b2⟩ := byI_b x
      obtain ⟨b3, b4⟩ := byI_b y
      obtain ⟨b5, b6⟩ := byI_b z
      clear h3
      go_wp2_with fail
      go_region
      have c1 : Chg [] wr (putRow (wr.alloc (.cells (sac ⟨0, 0, 0⟩) 31)).drew wr.heap.size 0 (sac ⟨byI x, byI y, byI z⟩)) := (((Chg.refl [] wr).alloc _).drew).putRow _ _ _ (.inr (Nat.le_refl _))
      have r1 : (putRow (wr.alloc (.cells (sac ⟨0, 0, 0⟩) 31)).drew wr.heap.size 0 (sac ⟨byI x, byI y, byI z⟩)).heap[wr.heap.size]? = some (.cells (sac ⟨byI x, byI y, byI z⟩) 31 (0, 0)) := by simp [rowPut_full]
      generalize putRow (wr.alloc (.cells (sac ⟨0, 0, 0⟩) 31)).drew wr.heap.size 0 (sac ⟨byI x, byI y, byI z⟩) = w1 at r1 c1 ⊢
      generalize wr.heap.size = p at r1 ⊢
      have o1 := old r1
      go_wp2_with fail
      refine (sgood_any _ _ (HT.out.keep (HC.out.trans c1) (by simp))).mono ?_
      rintro e w2 ⟨rfl, c2⟩
      have r2 := c2.keep r1 (by simp)
      have o2 := old r2
      have C2 := Lib.hid (c1.trans c2)
      clear c1 r1 c2 o1
      have hrl : r'.length < (x :: y :: z :: r').length := by simp; omega
      have HRL := Lib.hid hrl
      clear hrl
      cases hgx : gdA (⟨byI x, byI y, byI z⟩ : Sact)
      · have hstep : decL b = ys ++ decL r' := by rw [HD.out, decL, one3, act3, hgx]; rfl
        have HS := Lib.hid hstep
        clear hstep
        go_wp2_with fail
        go_roundw
        case rel => exact ⟨r', ys, be, cap, A', rfl, rfl, HS.out, by have := HR.out; have := HRL.out; omega, HV.out.keep C2.out (by simp), HBE.out, HC.out.trans C2.out⟩
        case measure => rw [strLen_str, strLen_str]; exact HRL.out
      · have hstep : decL b = (ys ++ [(⟨byI x, byI y, byI z⟩ : Sact)]) ++ decL r' := by rw [HD.out, decL, one3, act3, hgx, List.append_assoc]; rfl
        have HS := Lib.hid hstep
        clear hstep
        have c3 := C2.out.alloc (.cells (sac ⟨byI x, byI y, byI z⟩) 31)
        have hsl : Sl (w2.alloc (.cells (sac ⟨byI x, byI y, byI z⟩) 31)) 3 (some ⟨w2.heap.size, 0, none⟩) 1 (cat Sact.enc [(⟨byI x, byI y, byI z⟩ : Sact)]) := by rw [cat_one]; exact sl_new _ _ _ _ _ _ rfl rfl
        obtain ⟨be', cp, A2, w4, happ, hv2, hbe2, hc2⟩ := Vec.acc (ty := 22) eltAct (w0 := W) (HC.out.trans c3) (HV.out.keep c3 (by simp)) HBE.out HQ.out hsl (c := 1) rfl (by have := HY.out; omega) (by have := HY.out; simp only [maxLen]; omega)
        have HV2 := Lib.hid hv2
        have HBE2 := Lib.hid hbe2
        have HC2 := Lib.hid hc2
        clear hv2 hbe2 hc2 hsl c3
        go_wp2_with fail
        go_roundw
        case rel => exact ⟨r', _, be', cp, A2, rfl, by rw [List.length_append]; rfl, HS.out, by have := HR.out; have := HRL.out; omega, HV2.out, HBE2.out, HC2.out⟩
        case measure => rw [strLen_str, strLen_str]; exact HRL.out
    · have g3 : ¬ (3 : Int) ≤ (strN r : Int) := by unfold strN; omega
      have he : decL b = ys := by rw [HD.out, decL_short (by omega), List.append_nil]
      have HE := Lib.hid he
      clear he h3
      go_wp2_with fail
      go_ret
      exact ⟨A', cap, be, by rw [HE.out]; rfl, by rw [HE.out]; exact HV.out, HBE.out, HC.out⟩

theorem drop3 {b : List UInt8} {i : Nat} (h : i + 3 ≤ b.length) : ∃ x y z, b[i]? = some x ∧ b[i + 1]? = some y ∧ b[i + 2]? = some z ∧ b.drop i = x :: y :: z :: b.drop (i + 3) := by
  refine ⟨b[i], b[i + 1], b[i + 2], List.getElem?_eq_getElem _, List.getElem?_eq_getElem _, List.getElem?_eq_getElem _, ?_⟩
  rw [List.drop_eq_getElem_cons (by omega), List.drop_eq_getElem_cons (i := i + 1) (by omega), List.drop_eq_getElem_cons (i := i + 1 + 1) (by omega)]
theorem rdecode_any16 (b : List UInt8) (q : Nat) (W : World) (hq : Old W q) (h5 : b.length ≤ 100000) :
    Calls Tryd.prog 14 #[.string (str b)] W (ToldA W q (decL b)) := by
  have HQ := Lib.hid hq
  have H5 := Lib.hid h5
  have hsz : strN b = b.length := rfl
  have g9 : (strN b : Int) ≤ 100000 := by omega
  have HSZ := Lib.hid hsz
  clear hq h5 hsz
  go_enter Tryd.func14, Tryd.ntmps14
  go_wp2_with fail
  go_loopw [3, 4] (fun o i wr => ∃ (k : Nat) (ys : List Sact) (be cap : Nat) (A' : Option Addr), i = .int .i64 k ∧ k ≤ b.length ∧ o = .slice A' ys.length cap ∧ decL b = ys ++ decL (b.drop k) ∧ Vec 3 31 Sact.enc wr q be A' cap ys ∧ (be = q ∨ W.heap.size ≤ be) ∧ Chg [] W wr) (fun _ i _ => b.length - (intOf i).toNat)
  case atStart => exact ⟨0, [], q, 0, none, rfl, by omega, rfl, rfl, Vec.nil .., .inl rfl, Chg.refl _ _⟩
  case round =>
    obtain ⟨k, ys, be, cap, A', rfl, hk, rfl, hd, hv, hbe, hc⟩ := hrel
    have HD := Lib.hid hd
    have HK := Lib.hid hk
    have HV := Lib.hid hv
    have HBE := Lib.hid hbe
    have HC := Lib.hid hc
    have HY := Lib.hid (show ys.length ≤ 100000 by have := decL_len b; rw [hd] at this; simp at this; have := H5.out; omega)
    have g0 : (0 : Int) ≤ (k : Int) := by omega
    have g8 : (k : Int) ≤ 100000 := by have := H5.out; omega
    clear hd hk hv hbe hc
    by_cases h3 : k + 3 ≤ b.length
    · obtain ⟨x, y, z, hx, hy, hz, hdr⟩ := drop3 h3
      have g3 : (k : Int) + 3 ≤ (strN b : Int) := by have := HSZ.out; omega
      have i0 : ∀ w, ixR Tryd.prog 9 (.string (str b)) (.int .i64 (k : Int)) w = .ok (.int .u8 (byI x)) w := ix_at Tryd.underlying9 _ k x hx
      have i1 : ∀ w, ixR Tryd.prog 9 (.string (str b)) (.int .i64 ((k : Int) + 1)) w = .ok (.int .u8 (byI y)) w := ix_at Tryd.underlying9 _ (k + 1) y hy
      have i2 : ∀ w, ixR Tryd.prog 9 (.string (str b)) (.int .i64 ((k : Int) + 2)) w = .ok (.int .u8 (byI z)) w := ix_at Tryd.underlying9 _ (k + 2) z hz
      obtain ⟨b1, b2⟩ := byI_b x
      obtain ⟨b3, b4⟩ := byI_b y
      obtain ⟨b5, b6⟩ := byI_b z
      have HDR := Lib.hid hdr
      have H3 := Lib.hid h3
      clear h3 hx hy hz hdr
      go_wp2_with fail
      go_region
      have c1 : Chg [] wr (putRow (wr.alloc (.cells (sac ⟨0, 0, 0⟩) 31)).drew wr.heap.size 0 (sac ⟨byI x, byI y, byI z⟩)) := (((Chg.refl [] wr).alloc _).drew).putRow _ _ _ (.inr (Nat.le_refl _))
      have r1 : (putRow (wr.alloc (.cells (sac ⟨0, 0, 0⟩) 31)).drew wr.heap.size 0 (sac ⟨byI x, byI y, byI z⟩)).heap[wr.heap.size]? = some (.cells (sac ⟨byI x, byI y, byI z⟩) 31 (0, 0)) := by simp [rowPut_full]
      generalize putRow (wr.alloc (.cells (sac ⟨0, 0, 0⟩) 31)).drew wr.heap.size 0 (sac ⟨byI x, byI y, byI z⟩) = w1 at r1 c1 ⊢
      generalize wr.heap.size = p at r1 ⊢
      have o1 := old r1
      go_wp2_with fail
      refine (rgood_any16 _ _).mono ?_
      rintro e w2 ⟨rfl, c2⟩
      have r2 := c2.keep r1 (by simp)
      have o2 := old r2
      have C2 := Lib.hid (c1.trans c2)
      clear c1 r1 c2 o1
      cases hgx : gdA (⟨byI x, byI y, byI z⟩ : Sact)
      · have hstep : decL b = ys ++ decL (b.drop (k + 3)) := by rw [HD.out, HDR.out, decL, one3, act3, hgx]; rfl
        have HS := Lib.hid hstep
        clear hstep
        go_wp2_with fail
        go_roundw
        case rel => exact ⟨k + 3, ys, be, cap, A', by go_num, H3.out, rfl, HS.out, HV.out.keep C2.out (by simp), HBE.out, HC.out.trans C2.out⟩
        case measure => have := H3.out; simp [intOf]; omega
      · have hstep : decL b = (ys ++ [(⟨byI x, byI y, byI z⟩ : Sact)]) ++ decL (b.drop (k + 3)) := by rw [HD.out, HDR.out, decL, one3, act3, hgx, List.append_assoc]; rfl
        have HS := Lib.hid hstep
        clear hstep
        have c3 := C2.out.alloc (.cells (sac ⟨byI x, byI y, byI z⟩) 31)
        have hsl : Sl (w2.alloc (.cells (sac ⟨byI x, byI y, byI z⟩) 31)) 3 (some ⟨w2.heap.size, 0, none⟩) 1 (cat Sact.enc [(⟨byI x, byI y, byI z⟩ : Sact)]) := by rw [cat_one]; exact sl_new _ _ _ _ _ _ rfl rfl
        obtain ⟨be', cp, A2, w4, happ, hv2, hbe2, hc2⟩ := Vec.acc (ty := 22) eltAct (w0 := W) (HC.out.trans c3) (HV.out.keep c3 (by simp)) HBE.out HQ.out hsl (c := 1) rfl (by have := HY.out; omega) (by have := HY.out; simp only [maxLen]; omega)
        have HV2 := Lib.hid hv2
        have HBE2 := Lib.hid hbe2
        have HC2 := Lib.hid hc2
        clear hv2 hbe2 hc2 hsl c3
        go_wp2_with fail
        go_roundw
        case rel => exact ⟨k + 3, _, be', cp, A2, by go_num, H3.out, by rw [List.length_append]; rfl, HS.out, HV2.out, HBE2.out, HC2.out⟩
        case measure => have := H3.out; simp [intOf]; omega
    · have g3 : ¬ (k : Int) + 3 ≤ (strN b : Int) := by have := HSZ.out; omega
      have he : decL b = ys := by rw [HD.out, decL_short (by rw [List.length_drop]; omega), List.append_nil]
      have HE := Lib.hid he
      clear he h3
      go_wp2_with fail
      go_ret
      exact ⟨A', cap, be, by rw [HE.out]; rfl, by rw [HE.out]; exact HV.out, HBE.out, HC.out⟩
end Go.Proofs.YtapkjbefdooclaaDoor
