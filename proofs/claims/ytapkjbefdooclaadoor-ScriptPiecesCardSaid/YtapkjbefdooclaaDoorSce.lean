/- Calls of package script on one act, and the document's: walked. No condition. -/
import Derived.Test.YtapkjbefdooclaaDoorScd
import Derived.Test.YtapkjbefdooclaaDoorOpen
import Derived.Test.YtapkjbefdooclaaDoorArgs
import Derived.Test.YtapkjbefdooclaaDoorChecked
import Derived.Laws.LoneSync
import Derived.Lib.SliceRun
import Derived.Deep.RegionHeld3
import Derived.Deep.RegionWith
import Derived.Laws.StructEq
import Derived.ChangeKeysEq
import Derived.BigQuiet
import Derived.BigRegion
import Derived.Deep.QuietTactic
namespace Go.Proofs.YtapkjbefdooclaaDoor
open Go.RowKit
set_option linter.unusedVariables false
set_option maxHeartbeats 1000000

set_option maxRecDepth 100000
attribute [local go_sem ↓] append_appS copy_copS clear_clrS make_mkS slice_slS index_ixS conv_cvS cell_row frozen_row loadAct storeAct heap_drew heap_drewN heap_alloc heap_past heap_setCell heap_putRow sac_kd sac_co sac_li act_eqIn
attribute [local go_sem] rowCell_some rowFrozen_some rowHas_some rowIn_some rowPart_full rowPart_lit rowPut_full rowPut_lit rowSet_some size_putRow wideAct run_loadS run_storeS run_appS run_copS run_clrS run_mkS run_slS run_ixS run_cvS loadW_at storeW_at fit_all fit_le one_int one_bool one_pointer one_slice allOne_list putRow_new ne_size1 ne_size2 ne_size3 ne_size4 sac_size sac_one fold_sac fold_sac2 str_size sac_lit sac_ne sac_set0 sac_set1 sac_set2
attribute [local simp ↓] heap_drew heap_drewN heap_alloc heap_past heap_setCell heap_putRow
attribute [local simp] rowCell_some rowFrozen_some rowHas_some rowIn_some rowPart_full rowPart_lit rowPut_full rowPut_lit rowSet_some size_putRow fit_all putRow_new ne_size1 ne_size2 ne_size3 ne_size4 sac_size
theorem make_bytes (w : World) (n : Nat) (hn : n ≤ 100000) : mkR Tryd.prog 40 (.int .i64 0) (.int .i64 (3 * (n : Int))) w = .ok (.slice (some ⟨w.heap.size, 0, none⟩) 0 (3 * n)) (w.alloc (.cells (madeCells #[.int .u8 0] (3 * n)) 5)) := by
  obtain ⟨i0, hi0, hz0, hz1, hz2⟩ := info_parts byte_info
  have := run_make (P := Tryd.prog) w 40 5 i0 _ Tryd.underlying40 hi0 hz0 .i64 .i64 0 (3 * (n : Int)) (by omega) (by omega) (by rw [hz2]; omega) (by omega)
  unfold mkR
  rw [this]
  have e1 : (3 * (n : Int)).toNat = 3 * n := by omega
  rw [e1, hz1, Nat.mul_one]
  rfl
theorem encB_len (l : List Sact) : (encB l).length = 3 * l.length := encB_length l
theorem allG_take {l : List Sact} {k : Nat} {x : Sact} (h : allG (l.take k) = true) (hx : l[k]? = some x) (hg : gdA x = true) : allG (l.take (k + 1)) = true := by
  obtain ⟨h1, e1⟩ := List.getElem?_eq_some_iff.1 hx
  rw [List.take_succ_eq_append_getElem h1, e1]
  unfold allG at h ⊢
  rw [List.all_append, h, List.all_cons, hg]; rfl
theorem allG_not {l : List Sact} {k : Nat} {x : Sact} (hx : l[k]? = some x) (hg : gdA x = false) : allG l = false := by
  unfold allG
  rw [List.all_eq_false]
  exact ⟨x, List.mem_of_getElem? hx, by simp [hg]⟩
theorem encB_take {l : List Sact} {k : Nat} {x : Sact} (hx : l[k]? = some x) : encB (l.take (k + 1)) = encB (l.take k) ++ byt x := by
  obtain ⟨h1, e1⟩ := List.getElem?_eq_some_iff.1 hx
  rw [List.take_succ_eq_append_getElem h1, e1, encB_snoc]
theorem byt_cells {a : Sact} (h : gdA a = true) : cat benc (byt a) = [.int .u8 a.kd, .int .u8 a.co, .int .u8 a.li] := by
  obtain ⟨h1, h2, h3⟩ := gdA_small h
  rw [cat_benc]
  simp only [byt, List.map_cons, List.map_nil]
  rw [toB_byI _ (by omega) (by omega), toB_byI _ (by omega) (by omega), toB_byI _ (by omega) (by omega)]
theorem sencode_any {A : Option Addr} {n c : Nat} {xs : List Sact} (W : World) (ht : KTab W) (h1 : Sl W 3 A n (cat Sact.enc xs)) (hl : xs.length = n) (h5 : n ≤ 100000) :
    Calls Tryd.prog 8 #[.slice A n c] W fun e w' => e = .returned (.tuple #[.string (str (encS xs)), .int .i64 (encE xs)]) ∧ Chg [] W w' := by
  have H1 := Lib.hid h1
  have HL := Lib.hid hl
  have HT := Lib.hid ht
  have HQ := Lib.hid ht.old
  have hm := fun w => make_bytes w n h5
  have g2 : (n : Int) ≤ 100000 := by omega
  have H5 := Lib.hid h5
  clear h1 hl ht h5
  go_enter Tryd.func8, Tryd.ntmps8
  go_wp2_with fail
  have hv0 : Vec 1 5 benc (W.alloc (.cells (madeCells #[.int .u8 0] (3 * n)) 5)) 0 W.heap.size (some ⟨W.heap.size, 0, none⟩) (3 * n) [] := .inr ⟨by have := HQ.out.lt; omega, rfl, by simp, (madeCells #[.int .u8 0] (3 * n)).toList, by rw [heap_alloc]; simp [sq, cat_nil], by simp [madeCells]⟩
  have HV0 := Lib.hid hv0
  clear hv0
  go_loopw [4, 13] (fun s i wr => ∃ (k be cap : Nat) (A' : Option Addr), k ≤ n ∧ i = .int .i64 k ∧ s = .slice A' (3 * k) cap ∧ Vec 1 5 benc wr 0 be A' cap (encB (xs.take k)) ∧ (be = 0 ∨ W.heap.size ≤ be) ∧ allG (xs.take k) = true ∧ Chg [] W wr) (fun _ i _ => n - (intOf i).toNat)
  case atStart => exact ⟨0, _, _, _, by omega, rfl, rfl, HV0.out, .inr (Nat.le_refl _), rfl, (Chg.refl _ _).alloc _⟩
  case round =>
    obtain ⟨k, be, cap, A', hk, rfl, rfl, hv, hbe, hg, hc⟩ := hrel
    have HV := Lib.hid hv
    have HBE := Lib.hid hbe
    have HG := Lib.hid hg
    have HC := Lib.hid hc
    clear hv hbe hg hc HV0
    by_cases hlt : k < n
    · obtain ⟨x, hx⟩ : ∃ x, xs[k]? = some x := ⟨xs[k]'(by rw [HL.out]; exact hlt), List.getElem?_eq_getElem _⟩
      have HX := Lib.hid hx
      have HLT := Lib.hid hlt
      have g1 : (k : Int) < (n : Int) := by omega
      have g0 : (0 : Int) ≤ (k : Int) := by omega
      obtain ⟨b0, o0, hA⟩ := H1.out.addr (by omega)
      subst hA
      obtain ⟨cA, tA, fA, hA, _, hpart⟩ := H1.out.elem (by omega) hlt (cat_part Sact.len hx)
      obtain ⟨hin, hpt⟩ := hpart 0 3 (by omega)
      have hAr := HC.out.keep hA (by simp)
      have oA := old hAr
      rw [Nat.add_zero] at hin hpt
      rw [show ((Sact.enc x).drop 0 |>.take 3).toArray = sac x from rfl] at hpt
      clear hx hlt hA hpart hk
      go_wp2_with fail
      have c1 := (Chg.refl [] wr).alloc (.cells (sac x) 31)
      have r1 : (wr.alloc (.cells (sac x) 31)).heap[wr.heap.size]? = some (.cells (sac x) 31 (0, 0)) := by simp
      generalize wr.heap.size = p at r1 ⊢
      generalize wr.alloc (.cells (sac x) 31) = w1 at r1 c1 ⊢
      refine (sgood_any x _ (HT.out.keep (HC.out.trans c1) (by simp))).mono ?_
      rintro e w2 ⟨rfl, c2⟩
      have r2 := c2.keep r1 (by simp)
      have o2 := old r2
      have C2 := Lib.hid (c1.trans c2)
      clear c1 r1 c2 hin hpt hAr oA
      cases hgx : gdA x
      · go_wp2_with fail
        go_ret2
        have hn : allG xs = false := allG_not HX.out hgx
        exact ⟨by rw [encS, encE, hn]; rfl, HC.out.trans C2.out⟩
      · obtain ⟨⟨k1, k2⟩, ⟨k3, k4⟩, k5, k6⟩ := gdA_small hgx
        have hby : cat benc (byt x) = [.int .u8 x.kd, .int .u8 x.co, .int .u8 x.li] := byt_cells hgx
        have c3 := C2.out.alloc (.cells #[.int .u8 x.kd, .int .u8 x.co, .int .u8 x.li] 5)
        have hsl : Sl (w2.alloc (.cells #[.int .u8 x.kd, .int .u8 x.co, .int .u8 x.li] 5)) 1 (some ⟨w2.heap.size, 0, none⟩) 3 (cat benc (byt x)) := by rw [hby]; exact sl_new _ _ _ _ _ _ rfl rfl
        have htk : (encB (xs.take k)).length = 3 * k := by rw [encB_length, List.length_take, HL.out, Nat.min_eq_left (Nat.le_of_lt HLT.out)]
        obtain ⟨be', cp, A2, w4, happ, hv2, hbe2, hc2⟩ := Vec.acc (ty := 40) eltByte (w0 := W) (HC.out.trans c3) (HV.out.keep c3 (by simp)) HBE.out HQ.out hsl (c := 3) rfl (by rw [htk]; have := H5.out; have := HLT.out; omega) (by rw [htk]; have := H5.out; have := HLT.out; simp only [maxLen]; omega)
        rw [htk] at happ
        have HV2 := Lib.hid hv2
        have HBE2 := Lib.hid hbe2
        have HC2 := Lib.hid hc2
        clear hv2 hbe2 hc2 hsl htk hby c3
        go_wp2_with fail
        go_roundw
        case rel => exact ⟨k + 1, be', cp, A2, by have := HLT.out; omega, by go_num, by rw [show 3 * (k + 1) = 3 * k + 3 by omega], by rw [encB_take HX.out]; exact HV2.out, HBE2.out, allG_take HG.out HX.out hgx, HC2.out⟩
        case measure => have := HLT.out; simp [intOf]; omega
    · have : k = n := by omega
      subst this
      have hall : xs.take k = xs := List.take_of_length_le (by rw [HL.out]; exact Nat.le_refl _)
      have hg := HG.out
      rw [hall] at hg
      have hv := HV.out
      rw [hall] at hv
      have hel : (encB xs).length = 3 * k := by rw [encB_length, HL.out]
      have hs := hv.sl benc_len
      rw [hel] at hs
      have hcv := cv_any (s := 40) (d := 9) (c := cap) Tryd.underlying40 Tryd.underlying5 Tryd.underlying9 hs hel
      have HR := Lib.hid (show encS xs = encB xs ∧ encE xs = 0 by unfold encS encE; rw [if_pos hg, if_pos hg]; exact ⟨rfl, rfl⟩)
      clear hall hg hv hel hs
      go_wp2_with fail
      go_ret2
      exact ⟨by rw [HR.out.1, HR.out.2]; rfl, HC.out⟩
theorem rencode_any16 {A : Option Addr} {n c : Nat} {xs : List Sact} (q : Nat) (W : World) (hq : Old W q) (h1 : Sl W 3 A n (cat Sact.enc xs)) (hl : xs.length = n) (h5 : n ≤ 100000) :
    Calls Tryd.prog 9 #[.slice A n c] W fun e w' => e = .returned (.tuple #[.string (str (encS xs)), .int .i64 (encE xs)]) ∧ Chg [] W w' := by
  have H1 := Lib.hid h1
  have HL := Lib.hid hl
  have HQ := Lib.hid hq
  have g2 : (n : Int) ≤ 100000 := by omega
  have H5 := Lib.hid h5
  clear h1 hl hq h5
  go_enter Tryd.func9, Tryd.ntmps9
  try dsimp only [List.append]
  go_wp2_with fail
  go_loopw [4, 5] (fun s i wr => ∃ (k be cap : Nat) (A' : Option Addr), k ≤ n ∧ i = .int .i64 k ∧ s = .slice A' (3 * k) cap ∧ Vec 1 5 benc wr q be A' cap (encB (xs.take k)) ∧ (be = q ∨ W.heap.size ≤ be) ∧ allG (xs.take k) = true ∧ Chg [] W wr) (fun _ i _ => n - (intOf i).toNat)
  case atStart => exact ⟨0, q, 0, none, by omega, rfl, rfl, Vec.nil .., .inl rfl, rfl, Chg.refl _ _⟩
  case round =>
    obtain ⟨k, be, cap, A', hk, rfl, rfl, hv, hbe, hg, hc⟩ := hrel
    have HV := Lib.hid hv
    have HBE := Lib.hid hbe
    have HG := Lib.hid hg
    have HC := Lib.hid hc
    clear hv hbe hg hc
    by_cases hlt : k < n
    · obtain ⟨x, hx⟩ : ∃ x, xs[k]? = some x := ⟨xs[k]'(by rw [HL.out]; exact hlt), List.getElem?_eq_getElem _⟩
      have HX := Lib.hid hx
      have HLT := Lib.hid hlt
      have g1 : (k : Int) < (n : Int) := by omega
      have g0 : (0 : Int) ≤ (k : Int) := by omega
      obtain ⟨b0, o0, hA⟩ := H1.out.addr (by omega)
      subst hA
      obtain ⟨cA, tA, fA, hA, hcell, hpart⟩ := H1.out.elem (by omega) hlt (cat_part Sact.len hx)
      obtain ⟨hin, hpt⟩ := hpart 0 3 (by omega)
      have z0 := hcell 0 (by omega)
      have z1 := hcell 1 (by omega)
      have z2 := hcell 2 (by omega)
      have hAr := HC.out.keep hA (by simp)
      have oA := old hAr
      rw [Nat.add_zero] at hin hpt z0
      rw [show ((Sact.enc x).drop 0 |>.take 3).toArray = sac x from rfl] at hpt
      rw [show (Sact.enc x)[0]? = some (.int .i64 x.kd) from rfl] at z0
      rw [show (Sact.enc x)[1]? = some (.int .i64 x.co) from rfl] at z1
      rw [show (Sact.enc x)[2]? = some (.int .i64 x.li) from rfl] at z2
      clear hx hlt hA hpart hk hcell
      go_wp2_with fail
      refine (rgood_any16 x _).mono ?_
      rintro e w2 ⟨rfl, c2⟩
      have r2 := c2.keep hAr (by simp)
      have o2 := old r2
      have C2 := Lib.hid c2
      clear c2 hAr oA
      cases hgx : gdA x
      · go_wp2_with fail
        go_ret2
        have hn : allG xs = false := allG_not HX.out hgx
        exact ⟨by rw [encS, encE, hn]; rfl, HC.out.trans C2.out⟩
      · obtain ⟨⟨k1, k2⟩, ⟨k3, k4⟩, k5, k6⟩ := gdA_small hgx
        have happ : ∃ be' cp A2 w4, appR Tryd.prog 40 40 #[.slice A' (3 * k) cap, .slice (some ⟨w2.heap.size, 0, none⟩) 3 3] (w2.alloc (.cells #[.int .u8 x.kd, .int .u8 x.co, .int .u8 x.li] 5)).drew = .ok (.slice A2 (3 * k + 3) cp) w4 ∧ Vec 1 5 benc w4 q be' A2 cp (encB (xs.take k) ++ byt x) ∧ (be' = q ∨ W.heap.size ≤ be') ∧ Chg [] W w4 := by
          have hby : cat benc (byt x) = [.int .u8 x.kd, .int .u8 x.co, .int .u8 x.li] := byt_cells hgx
          have c3 := (C2.out.alloc (.cells #[.int .u8 x.kd, .int .u8 x.co, .int .u8 x.li] 5)).drew
          have hsl : Sl (w2.alloc (.cells #[.int .u8 x.kd, .int .u8 x.co, .int .u8 x.li] 5)).drew 1 (some ⟨w2.heap.size, 0, none⟩) 3 (cat benc (byt x)) := by rw [hby]; exact sl_new _ _ _ _ _ _ rfl rfl
          have htk : (encB (xs.take k)).length = 3 * k := by rw [encB_length, List.length_take, HL.out, Nat.min_eq_left (Nat.le_of_lt HLT.out)]
          have := Vec.acc (ty := 40) eltByte (w0 := W) (HC.out.trans c3) (HV.out.keep c3 (by simp)) HBE.out HQ.out hsl (c := 3) rfl (by rw [htk]; have := H5.out; have := HLT.out; omega) (by rw [htk]; have := H5.out; have := HLT.out; simp only [maxLen]; omega)
          rw [htk] at this
          exact this
        obtain ⟨be', cp, A2, w4, happ, hv2, hbe2, hc2⟩ := happ
        have HV2 := Lib.hid hv2
        have HBE2 := Lib.hid hbe2
        have HC2 := Lib.hid hc2
        clear hv2 hbe2 hc2
        go_wp2_with fail
        go_region
        go_wp2_with fail
        go_roundw
        case rel => exact ⟨k + 1, be', cp, A2, by have := HLT.out; omega, by go_num, by rw [show 3 * (k + 1) = 3 * k + 3 by omega], by rw [encB_take HX.out]; exact HV2.out, HBE2.out, allG_take HG.out HX.out hgx, HC2.out⟩
        case measure => have := HLT.out; simp [intOf]; omega
    · have : k = n := by omega
      subst this
      have hall : xs.take k = xs := List.take_of_length_le (by rw [HL.out]; exact Nat.le_refl _)
      have hg := HG.out
      rw [hall] at hg
      have hv := HV.out
      rw [hall] at hv
      have hel : (encB xs).length = 3 * k := by rw [encB_length, HL.out]
      have hs := hv.sl benc_len
      rw [hel] at hs
      have hcv := cv_any (s := 40) (d := 9) (c := cap) Tryd.underlying40 Tryd.underlying5 Tryd.underlying9 hs hel
      have HR := Lib.hid (show encS xs = encB xs ∧ encE xs = 0 by unfold encS encE; rw [if_pos hg, if_pos hg]; exact ⟨rfl, rfl⟩)
      clear hall hg hv hel hs
      go_wp2_with fail
      go_ret2
      exact ⟨by rw [HR.out.1, HR.out.2]; rfl, HC.out⟩
end Go.Proofs.YtapkjbefdooclaaDoor
