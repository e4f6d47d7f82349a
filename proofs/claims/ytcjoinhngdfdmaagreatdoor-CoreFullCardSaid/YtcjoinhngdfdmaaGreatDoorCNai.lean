/- Texts of the walk, one behind the other: Mfi Pre Prf. No condition. -/
import Derived.Test.YtcjoinhngdfdmaaGreatDoorCNah
import Derived.BigQuiet
import Derived.Deep.Cut
import Derived.Deep.CutBlock
import Derived.Deep.CutRange
import Derived.Deep.DeepCutAuto
import Derived.Deep.QuietTactic
import Derived.Deep.RegionHeld3
import Derived.Deep.RegionWith
section
namespace Go.Proofs.YtcjoinhngdfdmaaGreatDoor
open Go.RowKit
set_option linter.unusedVariables false
set_option maxHeartbeats 1000000
set_option maxRecDepth 100000
attribute [local go_sem ↓] append_appS copy_copS clear_clrS make_mkS cell_row frozen_row loadLine storeLine loadSlot storeSlot heap_drew heap_drewN heap_alloc heap_past heap_setCell heap_putRow vs_get slc_st slc_li slc_us slice_slS loadMsg storeMsg loadHas storeHas msc_kd msc_li msc_di msc_ke
attribute [local go_sem] rowCell_some rowFrozen_some rowHas_some rowIn_some rowPart_full rowPart_lit rowPut_full rowPut_lit rowSet_some size_putRow vs_size vs_one wideLine wideSlot run_loadS run_storeS run_appS run_copS run_clrS run_mkS loadW_at storeW_at fit_all fit_le one_int one_bool one_pointer one_slice allOne_list putRow_new ne_size1 ne_size2 ne_size3 ne_size4 zero8_length lines_nil line_eq lit8 slc_size slc_one slc_part slc_in fold_slt fold_slc slc_set_us wideMsg wideHas run_slS msc_size msc_one msc_part msc_in fold_msc msc_putDi msc_putKe msc_putX msc_has ms4_lit
attribute [local simp ↓] heap_drew heap_drewN heap_alloc heap_past heap_setCell heap_putRow
attribute [local simp] rowCell_some rowFrozen_some rowHas_some rowIn_some rowPart_full rowPart_lit rowPut_full rowPut_lit rowSet_some size_putRow vs_size fit_all putRow_new ne_size1 ne_size2 ne_size3 ne_size4 zero8_length slc_size msc_size msc_putDi msc_putKe msc_putX msc_has fit_le
attribute [local go_sem ↓] ec_he ec_di ec_ow ec_sh ec_bu ec_by ec_wa sc_to
attribute [local go_sem] mi_and mi_or mi_not mi_beq0 mi_bne0 ec_size ec_one ec_part ec_in ec_has ec_setDi ec_setOw ec_setSh ec_setBu ec_setBy ec_setWa ec_setSh0 ec_setWa0 ec_putM sc_size sc_one sc_part sc_in
attribute [local simp] ec_size sc_size ec_setDi ec_setOw ec_setSh ec_setBu ec_setBy ec_setWa ec_setSh0 ec_setWa0 ec_putM
attribute [local go_sem ↓] loadEn storeEn loadSd storeSd en_z0
attribute [local go_sem] wideEn wideSd fold_sc size11 putRow_newB putRow_newC ms5_lit
attribute [local simp] en_z0 putRow_newB putRow_newC fit_le ec_has



attribute [local go_sem ↓] mlitZ zenc_po zenc_en zenc_q
attribute [local simp] mlitZ

/-- A port's row while it is made: its agent, or none yet. -/
def zp (o : Option Nat) : List Value := [.pointer (o.map fun g => ⟨g, 0, none⟩), .slice none 0 0, .slice none 0 0, .slice none 0 0, .slice none 0 0, .slice none 0 0, .slice none 0 0]
theorem zp_len (o : Option Nat) : (zp o).length = 7 := rfl
theorem port_info : (Tryz.prog.info? 126).map (fun i => (i.zero, i.size, i.bytes)) = some (some (.agg (zp none).toArray), 7, 152) := by kernel_rfl
theorem run_make_ports (w : World) (n : Nat) (hn : n ≤ 64) : mkR Tryz.prog 81 (.int .i64 n) (.int .i64 n) w = .ok (.slice (some ⟨w.heap.size, 0, none⟩) n n) (w.alloc (.cells (sq zp (List.replicate n none) []) 126)) := by
  obtain ⟨i0, hi0, hz0, hz1, hz2⟩ := info_parts port_info
  have := run_make (P := Tryz.prog) w 81 126 i0 _ Tryz.underlying81 hi0 hz0 .i64 .i64 n n (by omega) (by omega) (by rw [hz2]; omega) (by omega)
  simp only [Int.toNat_natCast, hz1] at this
  rw [← made_sq zp_len (by decide)]
  exact this
abbrev Trip := Nat × Nat × Nat
def rowsZ (gs : List Trip) (n : Nat) : List (Option Nat) := gs.map (fun y => some y.1) ++ List.replicate (n - gs.length) none
theorem rowsZ_nil (n : Nat) : rowsZ [] n = List.replicate n none := by simp [rowsZ]
theorem rowsZ_at (gs : List Trip) (n : Nat) (h : gs.length < n) : (rowsZ gs n)[gs.length]? = some none := by
  unfold rowsZ
  rw [List.getElem?_append_right (by simp), List.length_map, Nat.sub_self, List.getElem?_replicate, if_pos (by omega)]
theorem rowsZ_set (gs : List Trip) (n : Nat) (y : Trip) (h : gs.length < n) : (rowsZ gs n).set gs.length (some y.1) = rowsZ (gs ++ [y]) n := by
  unfold rowsZ
  rw [List.set_append_right _ _ (by simp), List.length_map, Nat.sub_self, show n - gs.length = (n - (gs ++ [y]).length) + 1 by simp; omega, List.replicate_succ, List.set_cons_zero, List.map_append]
  simp
def trips (gs : List Trip) : List Nat := gs.flatMap fun y => [y.1, y.2.1, y.2.2]
theorem trips_snoc (gs : List Trip) (y : Trip) : trips (gs ++ [y]) = trips gs ++ [y.1, y.2.1, y.2.2] := by simp [trips]
def st0 (c : Cg) : Sta := (List.replicate (c.se * c.wa) sltZ, 0)
def pt0 (c : Cg) : Pt := ⟨st0 c, [], [], []⟩
def mkPo (po : Nat) (y : Trip) : Po := ⟨y.1, y.2.1, y.2.2, po, none, 0, po, none, 0, po, none, 0⟩
theorem mkPo_foot (po : Nat) (y : Trip) : (mkPo po y).foot po = [y.1, y.2.1, y.2.2] := by simp [Po.foot, mkPo, opt]
theorem Agt.weak {W w0 w : World} {g a b S N : Nat} {s : Sta} (h : Agt w0 w g a b S N s) (hc : Chg [] W w0) : Agt W w g a b S N s :=
  ⟨⟨hc.trans h.1.1, h.1.2.1, Nat.le_trans hc.size h.1.2.2.1, Nat.le_trans hc.size h.1.2.2.2⟩, h.2.1, Nat.le_trans hc.size h.2.2.1, h.2.2.2⟩
theorem sq_oneE (e : En) : sq En.enc [e] [] = ec e := by simp [sq, cat, ec]
theorem cat_map {α β : Type} (enc : β → List Value) (f : α → β) (xs : List α) : cat enc (xs.map f) = cat (fun a => enc (f a)) xs := by unfold cat; rw [List.map_map]; rfl
def portsOf (po : Nat) (c : Cg) (gs : List Trip) : List (Po × Pt) := gs.map fun y => (mkPo po y, pt0 c)
theorem portsOf_sq (po : Nat) (c : Cg) (gs : List Trip) (n : Nat) (h : gs.length = n) : sq zp (rowsZ gs n) [] = sq penc (portsOf po c gs) [] := by
  unfold sq rowsZ portsOf
  simp only [h, Nat.sub_self, List.replicate_zero, List.append_nil, cat_map]
  rfl
theorem portsOf_feet (po : Nat) (c : Cg) (gs : List Trip) : feet po (portsOf po c gs) = trips gs := by
  unfold feet portsOf trips
  rw [List.map_map, List.flatMap_def]
  congr 1
  apply List.map_congr_left
  intro y _
  exact mkPo_foot po y
theorem portsOf_ports (po : Nat) (c : Cg) (gs : List Trip) : ports (portsOf po c gs) = List.replicate gs.length (pt0 c) := by
  unfold ports portsOf
  rw [List.map_map]
  exact List.map_const'
/-- A configuration that is good. -/
structure Cg.Ok (c : Cg) : Prop where
  co1 : 1 ≤ c.co
  co8 : c.co ≤ 8
  li2 : 2 ≤ c.li
  li64 : c.li ≤ 64
  vo1 : 1 ≤ c.vo
  vol : c.vo < c.li
  new : goodNew (c.se : Int) (c.wa : Int)
  qu1 : 1 ≤ c.qu
  qu16 : c.qu ≤ 16
  st1 : 1 ≤ c.st
  st16 : c.st ≤ 16
/-- All ports, entries are made anew. -/
def Fresh (W w : World) (c : Cg) (sy : Nat) (C : Array Value) (w' : World) : Prop :=
  ∃ po en L, w'.heap[sy]? = some (.cells ((C.setIfInBounds 8 (.slice (some ⟨po, 0, none⟩) c.co c.co)).setIfInBounds 9 (.slice (some ⟨en, 0, none⟩) c.li c.li)) 91 (0, 0)) ∧
    w'.heap[po]? = some (.cells (sq penc L []) 126 (0, 0)) ∧ L.length = c.co ∧ w'.heap[en]? = some (.cells (sq En.enc (List.replicate c.li enE) []) 129 (0, 0)) ∧ (∀ y ∈ L, PortOk W w' po c.se c.wa y) ∧
    ports L = List.replicate c.co (pt0 c) ∧ (po :: en :: feet po L).Nodup ∧ (∀ k ∈ po :: en :: feet po L, w.heap.size ≤ k) ∧ Chg [sy] w w'
theorem forget_ok (W w : World) (c : Cg) (hc : c.Ok) (sy : Nat) (C : Array Value) (hW : Chg [] W w) (hsW : W.heap.size ≤ sy) (hs : w.heap[sy]? = some (.cells C 91 (0, 0))) (c0 : C[0]? = some (.int .i64 c.co)) (c1 : C[1]? = some (.int .i64 c.li)) (c3 : C[3]? = some (.int .i64 c.se)) (c4 : C[4]? = some (.int .i64 c.wa))
    (v8 v9 : Value) (c8 : C[8]? = some v8) (c9 : C[9]? = some v9) : Calls Tryz.prog 36 #[.pointer (some ⟨sy, 0, none⟩)] w fun e w' => e = .returned (.tuple #[]) ∧ Fresh W w c sy C w' := by
  have hmk := fun W => run_make_ports W c.co (by have := hc.co8; omega)
  have HC := Lib.hid hc
  have HW := Lib.hid hW
  have HSW := Lib.hid hsW
  have H9 := Lib.hid c9
  have H8 := Lib.hid c8
  have os := old hs
  have nsz : sy ≠ w.heap.size := by have := os.lt; omega
  have nsz' : w.heap.size ≠ sy := Ne.symm nsz
  have HS0 := Lib.hid hs
  have gco : (c.co : Int) ≤ 8 := by have := hc.co8; omega
  clear hc hW hsW
  go_enter Tryz.func36, Tryz.ntmps36
  try dsimp only [List.append]
  go_upto_region 1 with fail
  have rS : ((w.alloc (.cells (sq zp (List.replicate c.co none) []) 126)).setCell ⟨sy, 8, none⟩ (.slice (some ⟨w.heap.size, 0, none⟩) c.co c.co)).heap[sy]? = some (.cells (C.setIfInBounds 8 (.slice (some ⟨w.heap.size, 0, none⟩) c.co c.co)) 91 (0, 0)) := by
    rw [heap_setCell, if_pos rfl, heap_alloc, hs]; rfl
  have rP : ((w.alloc (.cells (sq zp (List.replicate c.co none) []) 126)).setCell ⟨sy, 8, none⟩ (.slice (some ⟨w.heap.size, 0, none⟩) c.co c.co)).heap[w.heap.size]? = some (.cells (sq zp (rowsZ [] c.co) []) 126 (0, 0)) := by
    rw [heap_setCell, if_neg nsz', rowsZ_nil]; exact new_blk _ _
  have K1 := Lib.hid (((Chg.refl [sy] w).alloc (.cells (sq zp (List.replicate c.co none) []) 126)).setCell sy 8 (.slice (some ⟨w.heap.size, 0, none⟩) c.co c.co) (.inl (by simp)))
  have d0 : (C.setIfInBounds 8 (.slice (some ⟨w.heap.size, 0, none⟩) c.co c.co))[0]? = some (.int .i64 c.co) := set_other c0 (by decide)
  have d1 : (C.setIfInBounds 8 (.slice (some ⟨w.heap.size, 0, none⟩) c.co c.co))[1]? = some (.int .i64 c.li) := set_other c1 (by decide)
  have d3 : (C.setIfInBounds 8 (.slice (some ⟨w.heap.size, 0, none⟩) c.co c.co))[3]? = some (.int .i64 c.se) := set_other c3 (by decide)
  have d4 : (C.setIfInBounds 8 (.slice (some ⟨w.heap.size, 0, none⟩) c.co c.co))[4]? = some (.int .i64 c.wa) := set_other c4 (by decide)
  have d8 : (C.setIfInBounds 8 (.slice (some ⟨w.heap.size, 0, none⟩) c.co c.co))[8]? = some (.slice (some ⟨w.heap.size, 0, none⟩) c.co c.co) := set_this c8
  have d9 := Lib.hid (show (C.setIfInBounds 8 (.slice (some ⟨w.heap.size, 0, none⟩) c.co c.co))[9]? = some v9 from set_other c9 (by decide))
  have HPO := Lib.hid (Nat.le_refl w.heap.size)
  have HSY := Lib.hid os.lt
  generalize hpo : w.heap.size = po at rS rP K1 d0 d1 d3 d4 d8 d9 nsz nsz' HPO HSY ⊢
  have HB := Lib.hid hpo
  generalize hC8 : C.setIfInBounds 8 (.slice (some ⟨po, 0, none⟩) c.co c.co) = C8 at rS d0 d1 d3 d4 d8 d9
  have HC8 := Lib.hid hC8
  generalize (w.alloc (.cells (sq zp (List.replicate c.co none) []) 126)).setCell ⟨sy, 8, none⟩ (.slice (some ⟨po, 0, none⟩) c.co c.co) = w1 at rS rP K1 ⊢
  clear hpo hC8 hs os c0 c1 c3 c4 c8 c9 hmk
  go_wp2_with fail
  have hp1 : po < w1.heap.size := lt_heap rP
  go_loopw [17] (fun ix wr => ∃ gs : List Trip, gs.length ≤ c.co ∧ ix = .int .i64 gs.length ∧ wr.heap[sy]? = some (.cells C8 91 (0, 0)) ∧ wr.heap[po]? = some (.cells (sq zp (rowsZ gs c.co) []) 126 (0, 0)) ∧
      (∀ y ∈ gs, Agt W wr y.1 y.2.1 y.2.2 c.se c.wa (st0 c)) ∧ (trips gs).Nodup ∧ (∀ x ∈ trips gs, po < x ∧ x < wr.heap.size) ∧ Chg [sy] w wr) (fun ix _ => c.co - (intOf ix).toNat)
  case atStart => exact ⟨[], by simp, rfl, rS, rP, by simp, by simp [trips], by simp [trips], K1.out⟩
  case round =>
    clear rS rP hp1
    obtain ⟨gs, hg, rfl, rS, rP, hag, hnd, hlt, hch⟩ := hrel
    have HAG := Lib.hid hag
    have HND := Lib.hid hnd
    have HLT := Lib.hid hlt
    have HCH := Lib.hid hch
    clear hag hnd hlt hch
    obtain ⟨k, hk⟩ : ∃ k, gs.length = k := ⟨_, rfl⟩
    have HKK := Lib.hid hk
    rw [hk] at hg ⊢
    clear hk
    by_cases hlk : k < c.co
    · have g1 : (k : Int) < (c.co : Int) := by omega
      have g0 : (0 : Int) ≤ (k : Int) := by omega
      have hnew := gnew_ok c.se c.wa wr wr.drew (Chg.refl [] wr).drew HC.out.new
      have HN := Lib.hid hnew
      have RP := Lib.hid rP
      have hz : (sq zp (rowsZ gs c.co) [])[k * 7]? = some (.pointer none) := by
        have h1 := rowsZ_at gs c.co (by rw [HKK.out]; exact hlk)
        rw [HKK.out] at h1
        exact sq_cell zp_len h1 [] 0 (by decide)
      have oS := old rS
      have oP := old rP
      clear hnew
      go_wp2_with fail
      go_region_held3 (fun w' => w'.heap[sy]? = some (.cells C8 91 (0, 0)))
        (first | (rw [heap_setCell, if_neg nsz]; exact s5) | exact s5 | exact rS)
        (first | (go_at_call 71; refine HN.out.mono ?_; rintro e w' ⟨g, a, b, rfl, hA5, hc5⟩; have s5 := hc5.keep rS List.not_mem_nil; have p5 := hc5.keep rP List.not_mem_nil; have o5 := old p5; have os5 := old s5))
      all_goals
        have hk0 := HKK.out
        have hlk' : gs.length < c.co := by rw [hk0]; exact hlk
        have cp : Chg [po] w' (w'.setCell ⟨po, k * 7, none⟩ (.pointer (some ⟨g, 0, none⟩))) := (Chg.refl [po] w').setCell po (k * 7) _ (.inl (by simp))
        have s6 : (w'.setCell ⟨po, k * 7, none⟩ (.pointer (some ⟨g, 0, none⟩))).heap[sy]? = some (.cells C8 91 (0, 0)) := by rw [heap_setCell, if_neg nsz]; exact s5
        have p6 : (w'.setCell ⟨po, k * 7, none⟩ (.pointer (some ⟨g, 0, none⟩))).heap[po]? = some (.cells (sq zp (rowsZ (gs ++ [(g, a, b)]) c.co) []) 126 (0, 0)) := by
          rw [heap_setCell, if_pos rfl, p5, rowSet_some]
          have h1 := rowsZ_at gs c.co hlk'
          have h2 := sq_put (o := 0) (b := some g) (v := .pointer (some ⟨g, 0, none⟩)) zp_len h1 (by decide) rfl
          rw [rowsZ_set gs c.co (g, a, b) hlk', hk0, Nat.add_zero] at h2
          rw [h2]
        have hWr : Chg [] W wr := HW.out.trans' HCH.out (fun x hx => .inr (by rw [List.mem_singleton.1 hx]; exact HSW.out))
        have hpW : W.heap.size ≤ po := by rw [← HB.out]; exact HW.out.size
        have hl2 := hA5.old2
        have hl1 := lt_heap hA5.2.1
        have hlg := hA5.2.2.1
        have hla := hA5.1.2.2
        have hgn := hA5.2.2.2.1
        have hab := hA5.1.2.1.2.2.1
        have hpr := oP.lt
        have hcs : wr.heap.size ≤ w'.heap.size := hc5.size
        have hsz6 : (w'.setCell ⟨po, k * 7, none⟩ (.pointer (some ⟨g, 0, none⟩))).heap.size = w'.heap.size := by simp
        simp only [List.mem_cons, List.not_mem_nil, or_false, forall_eq_or_imp, forall_eq] at hl2 hgn
        have HG6 := Lib.hid (show ∀ y ∈ gs ++ [(g, a, b)], Agt W (w'.setCell ⟨po, k * 7, none⟩ (.pointer (some ⟨g, 0, none⟩))) y.1 y.2.1 y.2.2 c.se c.wa (st0 c) by
          have hpl : ∀ x ∈ [po], W.heap.size ≤ x := fun x hx => by rw [List.mem_singleton.1 hx]; exact hpW
          intro y hy
          rcases List.mem_append.1 hy with h1 | h1
          · have hin : ∀ x, x ∈ [y.1, y.2.1, y.2.2] → x ∉ [po] := by
              intro x hx hm
              have h2 := (HLT.out x (List.mem_flatMap.2 ⟨y, h1, hx⟩)).1
              rw [List.mem_singleton.1 hm] at h2
              omega
            exact (((HAG.out y h1).keep (Chg.refl [] wr).drew).keep hc5).keepL cp hpl (hin _ (by simp)) (hin _ (by simp)) (hin _ (by simp))
          · rw [List.mem_singleton.1 h1]
            exact (hA5.weak hWr).keepL cp hpl (by simp; omega) (by simp; omega) (by simp; omega))
        have HN6 := Lib.hid (show (trips (gs ++ [(g, a, b)])).Nodup by
          rw [trips_snoc, List.nodup_append]
          refine ⟨HND.out, by simp; omega, ?_⟩
          intro x hx y hy e
          subst e
          have h2 := (HLT.out x hx).2
          simp only [List.mem_cons, List.not_mem_nil, or_false] at hy
          omega)
        have HL6 := Lib.hid (show ∀ x ∈ trips (gs ++ [(g, a, b)]), po < x ∧ x < (w'.setCell ⟨po, k * 7, none⟩ (.pointer (some ⟨g, 0, none⟩))).heap.size by
          intro x hx
          rw [hsz6]
          rw [trips_snoc, List.mem_append] at hx
          rcases hx with h1 | h1
          · have := HLT.out x h1; omega
          · simp only [List.mem_cons, List.not_mem_nil, or_false] at h1
            omega)
        have HC6 := Lib.hid ((HCH.out.trans (((Chg.refl [] wr).drew.trans hc5).mono (by simp))).setCell po (k * 7) (.pointer (some ⟨g, 0, none⟩)) (.inr (by rw [HB.out]; exact Nat.le_refl _)))
        have hlen : (gs ++ [(g, a, b)]).length = k + 1 := by simp [hk0]
        have S6 := Lib.hid s6
        have P6 := Lib.hid p6
        have HLN := Lib.hid hlen
        clear s5 p5 o5 os5 hA5 hc5 hk0 hlk' cp s6 p6 hWr hpW hl2 hl1 hlg hla hgn hab hpr hcs hsz6 hlen
        generalize w'.setCell ⟨po, k * 7, none⟩ (.pointer (some ⟨g, 0, none⟩)) = w6 at *
        go_wp2_with fail
        go_roundw
        case rel => exact ⟨gs ++ [(g, a, b)], by rw [HLN.out]; omega, by rw [HLN.out]; go_num, S6.out, P6.out, HG6.out, HN6.out, HL6.out, HC6.out⟩
        case measure => simp [intOf]; omega
    · obtain rfl : k = c.co := by omega
      have oS := old rS
      have RP := Lib.hid rP
      have e9 := d9.out
      have s0 : rowCell (wr.heap[sy]?) 1 = some (.int .i64 c.li) := by rw [rS, rowCell_some]; exact d1
      clear rP
      go_wp2_with fail
      go_region_held3 (fun w' => rowCell (w'.heap[sy]?) 1 = some (.int .i64 c.li))
        (first | (rw [heap_setCell, if_pos rfl, s6, rowSet_some, rowCell_some]; exact set_other d1 (by decide)) | (rw [s6, rowCell_some]; exact d1) | (rw [((Chg.refl [] _).alloc _).keep s5 List.not_mem_nil, rowCell_some]; exact d1) | (rw [s5, rowCell_some]; exact d1) | exact s0)
        (first
          | (go_at_call 73; refine (dempty_any _).mono ?_; rintro e w' ⟨rfl, c5⟩; have T5 := (Chg.refl [] wr).drew.trans c5; have s5 := T5.keep rS List.not_mem_nil)
          | (go_at_call 72; refine (repeat_ok enE _ c.li _ (by rw [sq_oneE]; exact new_blk _ _) (by have := HC.out.li2; omega) HC.out.li64).mono ?_; rintro e w' ⟨b9, rfl, e9b, l9, c6⟩; have T6 := (T5.alloc (.cells (ec enE) 129)).trans c6; have s6 := T6.keep rS List.not_mem_nil; have os6 := old s6))
      all_goals
        have hk0 := HKK.out
        have hpW : W.heap.size ≤ po := by rw [← HB.out]; exact HW.out.size
        have hcw : wr.heap.size ≤ w'.heap.size := T6.size
        have hpo9 : po < b9 := by have h1 := lt_heap RP.out; have h2 := T5.size; simp at l9; omega
        have hsy9 : sy < b9 := by have h1 := HSY.out; omega
        have hl9 : wr.heap.size ≤ b9 := by have h2 := T5.size; simp at l9; omega
        have cs : Chg [sy] w' (w'.setCell ⟨sy, 9, none⟩ (.slice (some ⟨b9, 0, none⟩) c.li c.li)) := (Chg.refl [sy] w').setCell sy 9 _ (.inl (by simp))
        have q1 : (w'.setCell ⟨sy, 9, none⟩ (.slice (some ⟨b9, 0, none⟩) c.li c.li)).heap[sy]? = some (.cells ((C.setIfInBounds 8 (.slice (some ⟨po, 0, none⟩) c.co c.co)).setIfInBounds 9 (.slice (some ⟨b9, 0, none⟩) c.li c.li)) 91 (0, 0)) := by
          rw [heap_setCell, if_pos rfl, s6, rowSet_some, HC8.out]
        have q2 : (w'.setCell ⟨sy, 9, none⟩ (.slice (some ⟨b9, 0, none⟩) c.li c.li)).heap[po]? = some (.cells (sq penc (portsOf po c gs) []) 126 (0, 0)) := by
          rw [← portsOf_sq po c gs c.co hk0]
          exact cs.keep (T6.keep RP.out (by simp)) (by simpa using Ne.symm nsz)
        have q3 : (w'.setCell ⟨sy, 9, none⟩ (.slice (some ⟨b9, 0, none⟩) c.li c.li)).heap[b9]? = some (.cells (sq En.enc (List.replicate c.li enE) []) 129 (0, 0)) := cs.keep e9b (by simp; omega)
        have HF := Lib.hid (show Fresh W w c sy C (w'.setCell ⟨sy, 9, none⟩ (.slice (some ⟨b9, 0, none⟩) c.li c.li)) by
          refine ⟨po, b9, portsOf po c gs, q1, q2, by simp [portsOf, hk0], q3, ?_, by rw [portsOf_ports, hk0], ?_, ?_, ?_⟩
          · intro y hy
            unfold portsOf at hy
            obtain ⟨y0, hy0, rfl⟩ := List.mem_map.1 hy
            have hin : ∀ x, x ∈ [y0.1, y0.2.1, y0.2.2] → x ∉ [sy] := by
              intro x hx hm
              have h2 := (HLT.out x (List.mem_flatMap.2 ⟨y0, hy0, hx⟩)).1
              have h3 := HSY.out
              rw [List.mem_singleton.1 hm] at h2
              omega
            refine ⟨((HAG.out y0 hy0).keep T6).keepL cs (fun x hx => by rw [List.mem_singleton.1 hx]; exact HSW.out) (hin _ (by simp)) (hin _ (by simp)) (hin _ (by simp)), .inl ⟨rfl, rfl, rfl, rfl⟩, .inl ⟨rfl, rfl, rfl, rfl⟩, .inl ⟨rfl, rfl, rfl, rfl⟩⟩
          · rw [portsOf_feet, List.nodup_cons, List.nodup_cons]
            refine ⟨?_, ?_, HND.out⟩
            · intro hm
              rcases List.mem_cons.1 hm with h1 | h1
              · omega
              · have := (HLT.out _ h1).1; omega
            · intro hm
              have := (HLT.out _ hm).2; omega
          · rw [portsOf_feet]
            intro x hx
            rw [HB.out]
            rcases List.mem_cons.1 hx with h1 | h1
            · omega
            · rcases List.mem_cons.1 h1 with h1 | h1
              · omega
              · have := (HLT.out x h1).1; omega
          · exact (HCH.out.trans (T6.mono (by simp))).trans cs)
        clear cs q1 q2 q3 s5 s6 os6 T5 T6 c5 c6
        go_wp2_with fail
        go_end0
        exact ⟨rfl, HF.out⟩
end Go.Proofs.YtcjoinhngdfdmaaGreatDoor
end
section
namespace Go.Proofs.YtcjoinhngdfdmaaGreatDoor
open Go.RowKit
set_option linter.unusedVariables false
set_option maxHeartbeats 1000000

/-! ### What a step does, and tells -/
structure MDid where
  v : Int
  hit : Bool
  m : Ms
  e : Int
def did0 : MDid := ⟨0, false, msZ, 0⟩
def didE (e : Int) : MDid := ⟨0, false, msZ, e⟩
def lnG (X : List Int) (i : Nat) : List Int := if (ln X i).length = 8 then ln X i else zl8
theorem lnG_len (X : List Int) (i : Nat) : (lnG X i).length = 8 := by unfold lnG; split <;> first | assumption | rfl
theorem lnG_eq {X : List Int} {i : Nat} (h : (ln X i).length = 8) : lnG X i = ln X i := by unfold lnG; rw [if_pos h]
def portAt (c : Cg) (S : Mst) (k : Int) : Option Pt := if inB k c.co = true then S.ps[k.toNat]? else none
def Mst.put (S : Mst) (k : Int) (x : Pt) : Mst := ⟨S.ps.set k.toNat x, S.en, S.es, S.xs⟩
def loadM (c : Cg) (S : Mst) (k li wd : Int) : Mst × MDid :=
  match portAt c S k with
  | none => (S, did0)
  | some x => if inB li c.li = true then (S.put k { x with s := (loadF c.se c.wa x.s li wd).1, up := x.up ++ (loadF c.se c.wa x.s li wd).2.2.2 }, ⟨(loadF c.se c.wa x.s li wd).2.1, (loadF c.se c.wa x.s li wd).2.2.1, msZ, 0⟩) else (S, did0)
def storeM (c : Cg) (S : Mst) (k li wd v : Int) : Mst × MDid :=
  match portAt c S k with
  | none => (S, did0)
  | some x => if inB li c.li = true then (S.put k { x with s := (storeF c.se c.wa x.s li wd v).1, up := x.up ++ (storeF c.se c.wa x.s li wd v).2.2 }, ⟨0, (storeF c.se c.wa x.s li wd v).2.1, msZ, 0⟩) else (S, did0)
def reachM (c : Cg) (S : Mst) (k li : Int) : Mst × MDid :=
  match portAt c S k with
  | none => (S, did0)
  | some x => if inB li c.li = true then (if ownsB x.s.1 li = true then (S, ⟨0, true, msZ, 0⟩) else (S.put k { x with s := (reachF c.se c.wa x.s li).1, up := x.up ++ (reachF c.se c.wa x.s li).2 }, did0)) else (S, did0)
def flushM (c : Cg) (S : Mst) (k li kd : Int) : Mst × MDid :=
  match portAt c S k with
  | none => (S, didE 1)
  | some x => if inB li c.li = true ∧ (kd = 4 ∨ kd = 5) then (S.put k { x with up := x.up ++ [ms4 kd li false false] }, did0) else (S, didE 1)
def upM (c : Cg) (S : Mst) (k : Int) : Mst × MDid :=
  match portAt c S k with
  | none => (S, didE 1)
  | some x => match x.up with
    | [] => (S, didE 14)
    | m :: rest => match S.en[m.li.toNat]? with
      | none => (S, did0)
      | some e => if (askE (hereP e (lnG S.X m.li.toNat) (lnG_len _ _)) k m).2 = 0 then (⟨sendP (S.ps.set k.toNat { x with up := rest }) (askE (hereP e (lnG S.X m.li.toNat) (lnG_len _ _)) k m).1.2, S.en.set m.li.toNat (askE (hereP e (lnG S.X m.li.toNat) (lnG_len _ _)) k m).1.1, S.es, S.xs⟩, did0) else (S, didE (askE (hereP e (lnG S.X m.li.toNat) (lnG_len _ _)) k m).2)
def answerM (c : Cg) (S : Mst) (k : Int) : Mst × MDid :=
  match portAt c S k with
  | none => (S, didE 1)
  | some x => match x.an with
    | [] => (S, didE 14)
    | m :: rest => match S.en[m.li.toNat]? with
      | none => (S, did0)
      | some e => if (ansE e k m).2 = 0 then (⟨sendP (S.ps.set k.toNat { x with an := rest }) (ansE e k m).1.2, S.en.set m.li.toNat (ansE e k m).1.1, S.es, S.xs⟩, did0) else (S.put k { x with an := rest }, didE (ansE e k m).2)
def hearM (c : Cg) (S : Mst) (k : Int) : Mst × MDid :=
  match portAt c S k with
  | none => (S, didE 1)
  | some x => match x.dn with
    | [] => (S, didE 14)
    | m :: rest => if (hearF c.se c.wa x.s m).2.2 = 0 then (S.put k { x with s := (hearF c.se c.wa x.s m).1, an := x.an ++ (hearF c.se c.wa x.s m).2.1, dn := rest }, ⟨0, false, m, 0⟩) else (S.put k { x with s := (hearF c.se c.wa x.s m).1, dn := rest }, didE (hearF c.se c.wa x.s m).2.2)
def pushM (c : Cg) (S : Mst) (li : Int) : Mst × MDid :=
  if inB li c.li = true then (match S.en[li.toNat]? with
    | none => (S, did0)
    | some e => if readyE e = true then (if saveV c S.es li.toNat e = 0 then (⟨sendP S.ps (tellL (bitM e.by_) (ms4 14 li false false)), S.en.set li.toNat ((overE e).setDi false), saveEs c S.es li.toNat e, S.xs⟩, did0) else (⟨S.ps, S.en, saveEs c S.es li.toNat e, S.xs⟩, didE (saveV c S.es li.toNat e))) else (S, didE 16)) else (S, didE 1)
def evictM (c : Cg) (S : Mst) (k li : Int) : Mst × MDid :=
  match portAt c S k with
  | none => (S, didE 1)
  | some x => if inB li c.li = true then (S.put k { x with s := (evictF c.se c.wa x.s li).1, up := x.up ++ (evictF c.se c.wa x.s li).2.1 }, didE (evictF c.se c.wa x.s li).2.2) else (S, didE 1)
def dropM (c : Cg) (S : Mst) (li : Int) : Mst × MDid :=
  if inB li c.li = true then (match S.en[li.toNat]? with
    | none => (S, did0)
    | some e => if keptE e = true then (S, didE 16) else (if saveV c S.es li.toNat e = 0 then (⟨S.ps, S.en.set li.toNat enE, saveEs c S.es li.toNat e, S.xs⟩, did0) else (⟨S.ps, S.en, saveEs c S.es li.toNat e, S.xs⟩, didE (saveV c S.es li.toNat e)))) else (S, didE 1)
def drainM (c : Cg) (S : Mst) (li : Int) : Mst × MDid :=
  if inB li c.li = true then (⟨S.ps, S.en, drainEs S.es li, drainXs S.xs S.es li⟩, didE (drainVal S.es li)) else (S, didE 1)
def failM (c : Cg) (S : Mst) : Mst := ⟨List.replicate c.co (pt0 c), List.replicate c.li enE, [], forget S.X c.vo⟩
def stepM (c : Cg) (S : Mst) (kd co li wd v : Int) : Mst × MDid :=
  if kd = 0 then loadM c S co li wd else if kd = 1 then storeM c S co li wd v else if kd = 2 then reachM c S co li else if kd = 3 then flushM c S co li (4 + v % 2)
  else if kd = 4 then upM c S co else if kd = 5 then answerM c S co else if kd = 6 then hearM c S co else if kd = 7 then pushM c S li else if kd = 8 then evictM c S co li
  else if kd = 9 then dropM c S li else if kd = 10 then drainM c S li else if kd = 11 then (failM c S, did0) else (S, did0)
/-- What the lines are: the last word that was written. -/
def curM (c : Cg) (S : Mst) (kd co li wd v : Int) (cur : Nat → List Int) : Nat → List Int :=
  if kd = 1 then (if (storeM c S co li wd v).2.hit = true then fun i => if (i : Int) = li then (cur i).set wd.toNat v else cur i else cur) else if kd = 11 then fun i => ln (failM c S).X i else cur

/-! ### What holds of every system -/
structure PtI (c : Cg) (n : Nat) (x : Pt) : Prop where
  aj : AJ c.se c.wa c.li x.s
  us : x.s.2 ≤ n
  up : x.up.length ≤ n
  an : x.an.length ≤ n
  dn : x.dn.length ≤ n
  fu : ∀ m ∈ x.up, mg m = true ∧ asksB m.kd = true ∧ m.li < c.li
  fa : ∀ m ∈ x.an, mg m = true ∧ answersB m.kd = true ∧ m.li < c.li
  fd : ∀ m ∈ x.dn, mg m = true ∧ tellsB m.kd = true ∧ m.li < c.li
theorem PtI.mono {c : Cg} {n n' : Nat} {x : Pt} (h : PtI c n x) (hn : n ≤ n') : PtI c n' x :=
  ⟨h.aj, by have := h.us; omega, Nat.le_trans h.up hn, Nat.le_trans h.an hn, Nat.le_trans h.dn hn, h.fu, h.fa, h.fd⟩
structure Inv (c : Cg) (n : Nat) (S : Mst) (cur : Nat → List Int) : Prop where
  ok : c.Ok
  co : S.ps.length = c.co
  li : S.en.length = c.li
  xs : S.xs.length = c.li * 8
  lie : Lie c.li S.es
  pt : ∀ j, j < c.co → PtI c n (atP S.ps j)
  ln : ∀ i e, S.en[i]? = some e → LinI c.co S.ps (cur i) (ln S.X i) i e
theorem mg_line {m : Ms} (h : mg m = true) : 0 ≤ m.li ∧ m.li ≤ 63 ∧ lineB m.li = true := by
  simp only [mg, Bool.and_eq_true] at h
  have h2 := h.1.1.1.2
  have := h2
  simp [lineB] at this
  exact ⟨this.1, this.2, h2⟩
section
variable {c : Cg} {n : Nat} {S : Mst} {cur : Nat → List Int} (h : Inv c n S cur)
include h
theorem Inv.lX : S.X.length = c.li * 8 := over_length _ _ h.xs h.lie
theorem Inv.ln8 {i : Nat} (hi : i < c.li) : (Go.Proofs.YtcjoinhngdfdmaaGreatDoor.ln S.X i).length = 8 := ln_length _ _ (fit_line h.lX hi)
theorem Inv.mono {n' : Nat} (hn : n ≤ n') : Inv c n' S cur := ⟨h.ok, h.co, h.li, h.xs, h.lie, fun j hj => (h.pt j hj).mono hn, h.ln⟩
theorem Inv.port {k : Int} {x : Pt} (hp : portAt c S k = some x) : ∃ j : Nat, k = (j : Int) ∧ j < c.co ∧ S.ps[j]? = some x ∧ atP S.ps j = x ∧ PtI c n x ∧ inB k c.co = true := by
  unfold portAt at hp
  split at hp
  · rename_i hb
    have hb' := hb
    unfold inB at hb
    simp at hb
    obtain ⟨j, rfl⟩ : ∃ j : Nat, k = (j : Int) := ⟨k.toNat, by omega⟩
    rw [Int.toNat_natCast] at hp
    have := atP_of hp
    exact ⟨j, rfl, by omega, hp, this, this ▸ h.pt j (by omega), hb'⟩
  · cases hp
theorem Inv.portNone {k : Int} (hp : portAt c S k = none) : inB k c.co = false := by
  unfold portAt at hp
  split at hp
  · rename_i hb
    unfold inB at hb
    simp at hb
    rw [List.getElem?_eq_none_iff, h.co] at hp
    omega
  · rename_i hb; simpa using hb
theorem Inv.entry {i : Nat} (hi : i < c.li) : ∃ e, S.en[i]? = some e ∧ LinI c.co S.ps (cur i) (Go.Proofs.YtcjoinhngdfdmaaGreatDoor.ln S.X i) i e :=
  ⟨_, List.getElem?_eq_getElem (by rw [h.li]; exact hi), h.ln i _ (List.getElem?_eq_getElem (by rw [h.li]; exact hi))⟩
/-- An agent's call. -/
theorem Inv.ag {j : Nat} {x : Pt} (hj : j < c.co) (hx : S.ps[j]? = some x) {s' : Sta} {ms : List Ms} (ha : Asks c.li x.s s' ms) (haj : AJ c.se c.wa c.li s') (hu : s'.2 ≤ x.s.2 + 1) : Inv c (n + 1) (S.put j { x with s := s', up := x.up ++ ms }) cur := by
  have hk := (List.getElem?_eq_some_iff.1 hx).1
  have e0 : (S.put (j : Int) { x with s := s', up := x.up ++ ms }).ps = S.ps.set j { x with s := s', up := x.up ++ ms } := by unfold Mst.put; rw [Int.toNat_natCast]
  have hpx := atP_of hx ▸ h.pt j hj
  have hlen : ms.length ≤ 1 ∧ ∀ m ∈ ms, mg m = true ∧ asksB m.kd = true ∧ m.li < c.li := by
    rcases ha with ⟨rfl, _⟩ | ⟨li, h0, hn, ha, _⟩
    · exact ⟨by simp, fun m hm => by cases hm⟩
    · have := h.ok.li64
      obtain ⟨m, rfl, h1, h2, h3, h4⟩ := ha.msg (by unfold lineB; simp; omega)
      exact ⟨by simp, fun a hm => by rw [List.mem_singleton] at hm; subst hm; exact ⟨h4, h3, by omega⟩⟩
  refine ⟨h.ok, ?_, h.li, h.xs, h.lie, fun p hp => ?_, fun i e he => ?_⟩
  · rw [e0, List.length_set]; exact h.co
  · rw [e0, atP_set hk]
    split
    · refine ⟨haj, ?_, ?_, Nat.le_succ_of_le hpx.an, Nat.le_succ_of_le hpx.dn, ?_, hpx.fa, hpx.fd⟩
      · have := hpx.us
        show s'.2 ≤ ((n + 1 : Nat) : Int)
        omega
      · show (x.up ++ ms).length ≤ n + 1
        rw [List.length_append]
        have := hpx.up
        omega
      · intro m hm
        rcases List.mem_append.1 hm with h1 | h1
        · exact hpx.fu m h1
        · exact hlen.2 m h1
    · exact (h.pt p hp).mono (Nat.le_succ n)
  · rw [e0]
    exact (h.ln i e he).ag h.ok.li64 hx ha
/-- A word is written. -/
theorem Inv.write {j : Nat} {x : Pt} (hj : j < c.co) (hx : S.ps[j]? = some x) {s' : Sta} {li : Nat} (l' : List Int) (hs : (vw x.s li).1 = 2 ∨ (vw x.s li).1 = 3) (hv : vw s' li = (3, l')) (ho : ∀ li', li' ≠ (li : Int) → vw s' li' = vw x.s li') (haj : AJ c.se c.wa c.li s') (hu : s'.2 ≤ x.s.2 + 1) :
    Inv c (n + 1) (S.put j { x with s := s' }) (fun i => if i = li then l' else cur i) ∧ (vw x.s li).2 = cur li := by
  have hk := (List.getElem?_eq_some_iff.1 hx).1
  have e0 : (S.put (j : Int) { x with s := s' }).ps = S.ps.set j { x with s := s' } := by unfold Mst.put; rw [Int.toNat_natCast]
  have hpx := atP_of hx ▸ h.pt j hj
  refine ⟨⟨h.ok, ?_, h.li, h.xs, h.lie, fun p hp => ?_, fun i e he => ?_⟩, ?_⟩
  · rw [e0, List.length_set]; exact h.co
  · rw [e0, atP_set hk]
    split
    · refine ⟨haj, ?_, Nat.le_succ_of_le hpx.up, Nat.le_succ_of_le hpx.an, Nat.le_succ_of_le hpx.dn, hpx.fu, hpx.fa, hpx.fd⟩
      have := hpx.us
      show s'.2 ≤ ((n + 1 : Nat) : Int)
      omega
    · exact (h.pt p hp).mono (Nat.le_succ n)
  · rw [e0]
    have hl := h.ln i e he
    by_cases hi : i = li
    · subst hi
      rw [if_pos rfl]
      exact (hl.write hj hx l' hs hv).1
    · rw [if_neg hi]
      exact hl.writeOff hx (ho i (by omega))
  · have hli : li < c.li := by
      have := (hpx.aj.line (li := (li : Int)) (by omega)).2.1
      omega
    obtain ⟨e, he, hl⟩ := h.entry hli
    exact (hl.write hj hx l' hs hv).2
/-- A flush is asked for. -/
theorem Inv.flush {j : Nat} {x : Pt} (hj : j < c.co) (hx : S.ps[j]? = some x) {li : Int} (hl : inB li c.li = true) {kd : Int} (hkd : kd = 4 ∨ kd = 5) : Inv c (n + 1) (S.put j { x with up := x.up ++ [ms4 kd li false false] }) cur ∧ mg (ms4 kd li false false) = true := by
  have hk := (List.getElem?_eq_some_iff.1 hx).1
  have e0 : (S.put (j : Int) { x with up := x.up ++ [ms4 kd li false false] }).ps = S.ps.set j { x with up := x.up ++ [ms4 kd li false false] } := by unfold Mst.put; rw [Int.toNat_natCast]
  have hpx := atP_of hx ▸ h.pt j hj
  have h64 := h.ok.li64
  unfold inB at hl
  simp at hl
  have hlB : lineB li = true := by unfold lineB; simp; omega
  have hmg : mg (ms4 kd li false false) = true := by rcases hkd with rfl | rfl <;> simp [mg, ms4, kindB, hlB]
  refine ⟨⟨h.ok, ?_, h.li, h.xs, h.lie, fun p hp => ?_, fun i e he => ?_⟩, hmg⟩
  · rw [e0, List.length_set]; exact h.co
  · rw [e0, atP_set hk]
    split
    · refine ⟨hpx.aj, ?_, ?_, Nat.le_succ_of_le hpx.an, Nat.le_succ_of_le hpx.dn, ?_, hpx.fa, hpx.fd⟩
      · have := hpx.us
        show x.s.2 ≤ ((n + 1 : Nat) : Int)
        omega
      · show (x.up ++ [ms4 kd li false false]).length ≤ n + 1
        rw [List.length_append]
        have := hpx.up
        simp; omega
      · intro m hm
        rcases List.mem_append.1 hm with h1 | h1
        · exact hpx.fu m h1
        · rw [List.mem_singleton] at h1
          subst h1
          exact ⟨hmg, by rcases hkd with rfl | rfl <;> rfl, hl.2⟩
    · exact (h.pt p hp).mono (Nat.le_succ n)
  · rw [e0]
    refine (h.ln i e he).same fun p hp => ?_
    rw [atP_set hk]
    split
    · rename_i hpj
      subst hpj
      rw [atP_of hx]
      refine ⟨rfl, rfl, ?_, rfl, rfl⟩
      unfold upL
      rw [List.filter_append]
      have : [ms4 kd li false false].filter (fun m => m.li == (i : Int) && decide (m.kd ≤ 3)) = [] := by rcases hkd with rfl | rfl <;> simp [ms4]
      rw [this, List.append_nil]
    · exact ⟨rfl, rfl, rfl, rfl, rfl⟩
omit h in
/-- What is sent: each port as it was, but for one message more. -/
theorem PtI.sent {c : Cg} {n : Nat} {x : Pt} (h : PtI c n x) {a : Ms} (ha : mg a = true ∧ tellsB a.kd = true ∧ a.li < c.li) : PtI c (n + 1) { x with dn := x.dn ++ [a] } := by
  refine ⟨h.aj, ?_, Nat.le_succ_of_le h.up, Nat.le_succ_of_le h.an, ?_, h.fu, h.fa, ?_⟩
  · have := h.us
    show x.s.2 ≤ ((n + 1 : Nat) : Int)
    omega
  · show (x.dn ++ [a]).length ≤ n + 1
    rw [List.length_append]
    have := h.dn
    simp; omega
  · intro m hm
    rcases List.mem_append.1 hm with h1 | h1
    · exact h.fd m h1
    · rw [List.mem_singleton] at h1; subst h1; exact ha
end
theorem sent_ports {c : Cg} {n : Nat} {ps : List Pt} (hl : ps.length = c.co) (hp : ∀ j, j < c.co → PtI c n (atP ps j)) {o : Mk} {a : Ms} (ho : ∀ j : Nat, j < 8 → hasM o j = true → j < c.co) (ha : mg a = true ∧ tellsB a.kd = true ∧ a.li < c.li) :
    (sendP ps (tellL o a)).length = c.co ∧ ∀ j, j < c.co → PtI c (n + 1) (atP (sendP ps (tellL o a)) j) := by
  obtain ⟨h1, h2⟩ := sendP_tell o a ps (by rw [hl]; exact ho)
  refine ⟨h1.trans hl, fun j hj => ?_⟩
  rw [h2 j (by omega)]
  split
  · exact (hp j hj).sent ha
  · exact (hp j hj).mono (Nat.le_succ n)
section
variable {c : Cg} {n : Nat} {S : Mst} {cur : Nat → List Int} (h : Inv c n S cur)
include h
/-- A request reaches the directory, or has to wait. -/
theorem Inv.up {j : Nat} {x : Pt} (hj : j < c.co) (hx : S.ps[j]? = some x) {m : Ms} {rest : List Ms} (hu : x.up = m :: rest) : ∃ (i : Nat) (e : En), m.li = (i : Int) ∧ i < c.li ∧ S.en[i]? = some e ∧
    ((e.bu ≠ 0 ∧ askE (hereP e (lnG S.X i) (lnG_len _ _)) j m = ((enZ, []), 15)) ∨
     (e.bu = 0 ∧ ∃ o a e', askE (hereP e (lnG S.X i) (lnG_len _ _)) j m = ((e', tellL o a), 0) ∧ TellOk m.li a ∧ (∀ j : Nat, j < 8 → hasM o j = true → j < c.co) ∧ Inv c (n + 1) ⟨sendP (S.ps.set j { x with up := rest }) (tellL o a), S.en.set i e', S.es, S.xs⟩ cur)) := by
  have hk := (List.getElem?_eq_some_iff.1 hx).1
  have hpx := atP_of hx ▸ h.pt j hj
  obtain ⟨m1, m2, m3⟩ := hpx.fu m (by rw [hu]; simp)
  obtain ⟨l1, l2, l3⟩ := mg_line m1
  obtain ⟨i, hi⟩ : ∃ i : Nat, m.li = (i : Int) := ⟨m.li.toNat, by omega⟩
  have hic : i < c.li := by omega
  obtain ⟨e, he, hl⟩ := h.entry hic
  refine ⟨i, e, hi, hic, he, ?_⟩
  have h8 := h.ln8 hic
  have hG := lnG_eq h8
  by_cases hb : e.bu = 0
  · obtain ⟨o, a, e', q1, q2, q3, q4⟩ := LinI.up (X := lnG S.X i) (by rw [hG]; exact hl) h.ok.co8 h.co (lnG_len _ _) hb hx hu m2 m1 hi
    refine .inr ⟨hb, o, a, e', q1, q2, q3, ?_⟩
    have hta : mg a = true ∧ tellsB a.kd = true ∧ a.li < c.li := ⟨q2.1, q2.2.1, by rw [q2.2.2.1]; exact m3⟩
    have hp1 : ∀ p, p < c.co → PtI c n (atP (S.ps.set j { x with up := rest }) p) := by
      intro p hp
      rw [atP_set hk]
      split
      · refine ⟨hpx.aj, hpx.us, ?_, hpx.an, hpx.dn, fun a ha => hpx.fu a (by rw [hu]; simp [show a ∈ rest from ha]), hpx.fa, hpx.fd⟩
        have := hpx.up
        rw [hu] at this
        simp at this
        show rest.length ≤ n
        omega
      · exact h.pt p hp
    obtain ⟨r1, r2⟩ := sent_ports (by rw [List.length_set]; exact h.co) hp1 q3 hta
    refine ⟨h.ok, r1, by rw [List.length_set]; exact h.li, h.xs, h.lie, r2, fun p ep hep => ?_⟩
    rw [List.getElem?_set] at hep
    split at hep
    · rename_i hip
      subst hip
      split at hep
      · injection hep with hep
        subst hep
        rw [hG] at q4
        exact q4
      · cases hep
    · rename_i hip
      exact LinI.upOff (h.ln p ep hep) h.co hx hu (by omega) q3 q2
  · refine .inl ⟨hb, ?_⟩
    have hh : e.he = true := by
      cases hh : e.he
      · have he' : e = enE := by
          have := hl.good
          unfold goodE at this
          rw [if_neg (by simp [hh])] at this
          simpa using this
        rw [he'] at hb; exact absurd rfl hb
      · rfl
    unfold hereP
    rw [if_pos hh]
    unfold askE
    have harg : askArg e j m = true := by simp [askArg, hl.good, isC_cast (show j < 8 by have := h.ok.co8; omega), m1, m2]
    rw [if_pos harg, if_pos hb]
/-- An answer reaches the directory. -/
theorem Inv.answer {j : Nat} {x : Pt} (hj : j < c.co) (hx : S.ps[j]? = some x) {m : Ms} {rest : List Ms} (hu : x.an = m :: rest) : ∃ (i : Nat) (e : En), m.li = (i : Int) ∧ i < c.li ∧ S.en[i]? = some e ∧
    ∃ o a e', ansE e j m = ((e', tellL o a), 0) ∧ TellOk m.li a ∧ (∀ j : Nat, j < 8 → hasM o j = true → j < c.co) ∧ Inv c (n + 1) ⟨sendP (S.ps.set j { x with an := rest }) (tellL o a), S.en.set i e', S.es, S.xs⟩ cur := by
  have hk := (List.getElem?_eq_some_iff.1 hx).1
  have hpx := atP_of hx ▸ h.pt j hj
  obtain ⟨m1, m2, m3⟩ := hpx.fa m (by rw [hu]; simp)
  obtain ⟨l1, l2, l3⟩ := mg_line m1
  obtain ⟨i, hi⟩ : ∃ i : Nat, m.li = (i : Int) := ⟨m.li.toNat, by omega⟩
  have hic : i < c.li := by omega
  obtain ⟨e, he, hl⟩ := h.entry hic
  refine ⟨i, e, hi, hic, he, ?_⟩
  obtain ⟨o, a, e', q1, q2, q3, q4⟩ := LinI.answer hl h.ok.co8 h.co hx hu m2 m1 hi
  refine ⟨o, a, e', q1, q2, q3, ?_⟩
  have hta : mg a = true ∧ tellsB a.kd = true ∧ a.li < c.li := ⟨q2.1, q2.2.1, by rw [q2.2.2.1]; exact m3⟩
  have hp1 : ∀ p, p < c.co → PtI c n (atP (S.ps.set j { x with an := rest }) p) := by
    intro p hp
    rw [atP_set hk]
    split
    · refine ⟨hpx.aj, hpx.us, hpx.up, ?_, hpx.dn, hpx.fu, fun a ha => hpx.fa a (by rw [hu]; simp [show a ∈ rest from ha]), hpx.fd⟩
      have := hpx.an
      rw [hu] at this
      simp at this
      show rest.length ≤ n
      omega
    · exact h.pt p hp
  obtain ⟨r1, r2⟩ := sent_ports (by rw [List.length_set]; exact h.co) hp1 q3 hta
  refine ⟨h.ok, r1, by rw [List.length_set]; exact h.li, h.xs, h.lie, r2, fun p ep hep => ?_⟩
  rw [List.getElem?_set] at hep
  split at hep
  · rename_i hip
    subst hip
    split at hep
    · injection hep with hep
      subst hep
      exact q4
    · cases hep
  · rename_i hip
    exact LinI.answerOff (h.ln p ep hep) h.co hx hu (by omega) q3 q2
/-- A core hears. -/
theorem Inv.hear {j : Nat} {x : Pt} (hj : j < c.co) (hx : S.ps[j]? = some x) {m : Ms} {rest : List Ms} (hd : x.dn = m :: rest) : tb m.kd (vw x.s m.li).1 ≠ 0 ∧ (hearF c.se c.wa x.s m).2.2 = 0 ∧ (hearF c.se c.wa x.s m).2.1.length ≤ 1 ∧ (∀ a ∈ (hearF c.se c.wa x.s m).2.1, mg a = true) ∧
    Inv c (n + 1) (S.put j { x with s := (hearF c.se c.wa x.s m).1, an := x.an ++ (hearF c.se c.wa x.s m).2.1, dn := rest }) cur := by
  have hk := (List.getElem?_eq_some_iff.1 hx).1
  have hpx := atP_of hx ▸ h.pt j hj
  obtain ⟨m1, m2, m3⟩ := hpx.fd m (by rw [hd]; simp)
  obtain ⟨l1, l2, l3⟩ := mg_line m1
  obtain ⟨i, hi⟩ : ∃ i : Nat, m.li = (i : Int) := ⟨m.li.toNat, by omega⟩
  have hic : i < c.li := by omega
  obtain ⟨e, he, hl⟩ := h.entry hic
  have ht := hl.fits hj hx hpx.aj hd hi
  have hg : (mg m && tellsB m.kd) = true := by rw [m1, m2]; rfl
  obtain ⟨a1, a2, _⟩ := hpx.aj.hearF hg m3 ht
  have hav : (answersL m.kd (findVal x.s.1 m.li) (tb m.kd (vw x.s m.li).1)).length ≤ 1 ∧ ∀ a ∈ answersL m.kd (findVal x.s.1 m.li) (tb m.kd (vw x.s m.li).1), mg a = true ∧ answersB a.kd = true ∧ a.li < c.li := by
    by_cases h14 : m.kd = 14
    · rw [h14]; exact ⟨Nat.zero_le _, fun a ha => by cases ha⟩
    · have hl := (hpx.aj.line (tb_line ht h14)).2.2.1
      have hto : ∀ kd ke, ((kd = 6 ∧ ke = false) ∨ kd = 7) → mg (toldM kd (findVal x.s.1 m.li) ke) = true ∧ answersB (toldM kd (findVal x.s.1 m.li) ke).kd = true ∧ (toldM kd (findVal x.s.1 m.li) ke).li < c.li := by
        intro kd ke hk
        unfold toldM
        split
        · refine ⟨?_, by rcases hk with ⟨rfl, _⟩ | rfl <;> rfl, by show (findVal x.s.1 m.li).li < c.li; omega⟩
          rcases hk with ⟨rfl, rfl⟩ | rfl <;> simp [mg, kindB, mayD, mayK, hl, l3]
        · refine ⟨?_, by rcases hk with ⟨rfl, _⟩ | rfl <;> rfl, by show (findVal x.s.1 m.li).li < c.li; omega⟩
          rcases hk with ⟨rfl, rfl⟩ | rfl <;> simp [mg, ms4, kindB, mayD, mayK, hl, l3]
      unfold answersL
      split
      · exact ⟨by simp, fun a ha => by rw [List.mem_singleton] at ha; subst ha; exact hto 6 false (.inl ⟨rfl, rfl⟩)⟩
      · split
        · exact ⟨by simp, fun a ha => by rw [List.mem_singleton] at ha; subst ha; exact hto 7 _ (.inr rfl)⟩
        · exact ⟨by simp, fun a ha => by cases ha⟩
  rw [show (hearF c.se c.wa x.s m).2.1 = answersL m.kd (findVal x.s.1 m.li) (tb m.kd (vw x.s m.li).1) by rw [a2]]
  refine ⟨ht, by rw [a2], hav.1, fun a ha => (hav.2 a ha).1, ?_⟩
  generalize hAV : answersL m.kd (findVal x.s.1 m.li) (tb m.kd (vw x.s m.li).1) = av at hav
  have e0 : (S.put (j : Int) { x with s := (hearF c.se c.wa x.s m).1, an := x.an ++ av, dn := rest }).ps = S.ps.set j { x with s := (hearF c.se c.wa x.s m).1, an := x.an ++ av, dn := rest } := by unfold Mst.put; rw [Int.toNat_natCast]
  refine ⟨h.ok, ?_, h.li, h.xs, h.lie, fun p hp => ?_, fun p ep hep => ?_⟩
  · rw [e0, List.length_set]; exact h.co
  · rw [e0, atP_set hk]
    split
    · refine ⟨a1, ?_, Nat.le_succ_of_le hpx.up, ?_, ?_, hpx.fu, ?_, fun a ha => hpx.fd a (by rw [hd]; simp [show a ∈ rest from ha])⟩
      · have := (hearF_u (S := c.se) (N := c.wa) (s := x.s) (m := m)).2
        have := hpx.us
        show (hearF c.se c.wa x.s m).1.2 ≤ ((n + 1 : Nat) : Int)
        omega
      · show (x.an ++ av).length ≤ n + 1
        rw [List.length_append]
        have := hpx.an
        omega
      · have := hpx.dn
        rw [hd] at this
        simp at this
        show rest.length ≤ n + 1
        omega
      · intro a ha
        rcases List.mem_append.1 ha with h1 | h1
        · exact hpx.fa a h1
        · exact hav.2 a h1
    · exact (h.pt p hp).mono (Nat.le_succ n)
  · rw [e0, ← hAV]
    exact (h.ln p ep hep).hear hx hpx.aj hd hg m3 ht
/-- Words go into the memory's queue. -/
theorem Inv.saved {i : Nat} (hi : i < c.li) (e : En) : (saveV c S.es i e = 0 ∨ saveV c S.es i e = 13) ∧ (saveV c S.es i e ≠ 0 → saveEs c S.es i e = S.es) ∧ (saveV c S.es i e = 0 → Lie c.li (saveEs c S.es i e) ∧ over S.xs (saveEs c S.es i e) = if e.di = true then lnPut S.X i e.l else S.X) := by
  have h0 : (0 : Int) ≤ (i : Int) ∧ (i : Int) < (c.li : Int) := by omega
  unfold saveV saveEs wpushVal pushEs
  rw [if_pos h0, if_pos h0]
  cases hd : e.di
  · simp only [Bool.false_eq_true, if_false]
    exact ⟨.inl trivial, fun h => absurd rfl h, fun _ => ⟨h.lie, rfl⟩⟩
  · simp only [if_true]
    by_cases hr : c.qu ≤ S.es.length
    · rw [if_pos hr, if_pos hr]
      exact ⟨.inr rfl, fun _ => rfl, fun h => absurd h (by decide)⟩
    · rw [if_neg hr, if_neg hr]
      refine ⟨.inl rfl, fun h => absurd rfl h, fun _ => ⟨h.lie.snoc (by rw [Int.toNat_natCast]; exact hi), ?_⟩⟩
      rw [over_snoc, Int.toNat_natCast]; rfl
theorem Inv.push {i : Nat} {e : En} (hi : i < c.li) (he : S.en[i]? = some e) (hr : readyE e = true) : isC e.by_ = true ∧ e.by_ < c.co ∧ mg (ms4 14 i false false) = true ∧ (saveV c S.es i e = 0 → Inv c (n + 1) ⟨sendP S.ps (tellL (bitM e.by_) (ms4 14 i false false)), S.en.set i ((overE e).setDi false), saveEs c S.es i e, S.xs⟩ cur) := by
  have hl := h.ln i e he
  have h64 := h.ok.li64
  have fit := push_fit hr
  have hh : e.he = true := fit.1
  have hlB : lineB (i : Int) = true := by unfold lineB; simp; omega
  have hmg : mg (ms4 14 (i : Int) false false) = true := by simp [mg, ms4, kindB, hlB]
  have hbu : e.bu = 4 ∨ e.bu = 5 := by simp only [readyE, Bool.and_eq_true, Bool.or_eq_true, beq_iff_eq] at hr; exact hr.1.2
  have hC : isC e.by_ = true := by
    rcases ((good_here hh).1 hl.good).2 with ⟨h1, _⟩ | ⟨_, h1, _⟩ | ⟨_, h1⟩
    · omega
    · exact h1.1
    · exact h1.1
  refine ⟨hC, hl.lo.2.1, hmg, fun hv => ?_⟩
  obtain ⟨_, _, s3⟩ := h.saved hi e
  obtain ⟨s4, s5⟩ := s3 hv
  obtain ⟨p, hp, hpe⟩ := isC_nat hC
  have hob : ∀ j : Nat, j < 8 → hasM (bitM e.by_) j = true → j < c.co := by
    intro j _ hj
    rw [has_bitN _ hC, decide_eq_true_eq] at hj
    have := hl.lo.2.1
    omega
  obtain ⟨r1, r2⟩ := sent_ports h.co h.pt hob (a := ms4 14 (i : Int) false false) ⟨hmg, rfl, by show (i : Int) < c.li; omega⟩
  refine ⟨h.ok, r1, by rw [List.length_set]; exact h.li, h.xs, s4, r2, fun q eq heq => ?_⟩
  have eX : (Mst.mk (sendP S.ps (tellL (bitM e.by_) (ms4 14 (i : Int) false false))) (S.en.set i ((overE e).setDi false)) (saveEs c S.es i e) S.xs).X = if e.di = true then lnPut S.X i e.l else S.X := s5
  rw [eX]
  rw [List.getElem?_set] at heq
  split at heq
  · rename_i hiq
    subst hiq
    split at heq
    · injection heq with heq
      subst heq
      refine LinI.sent (hl.push hr ?_) h.co hob (.inr rfl)
      split
      · exact ln_put_same _ _ _ (fit_line h.lX hi) e.h
      · rename_i hd
        exact hl.mem1 hh (by simpa using hd)
    · cases heq
  · rename_i hiq
    refine LinI.sent ((h.ln q eq heq).mem ?_) h.co hob (.inr rfl)
    split
    · exact ln_put_other _ _ _ _ (fit_line h.lX hi) e.h hiq
    · rfl
theorem Inv.drop {i : Nat} {e : En} (hi : i < c.li) (he : S.en[i]? = some e) (hr : keptE e = false) (hv : saveV c S.es i e = 0) : Inv c (n + 1) ⟨S.ps, S.en.set i enE, saveEs c S.es i e, S.xs⟩ cur := by
  have hl := h.ln i e he
  have hh : e.he = true := by
    unfold keptE at hr
    simp only [Bool.or_eq_false_iff, Bool.not_eq_false'] at hr
    exact hr.1.1.1
  obtain ⟨_, _, s3⟩ := h.saved hi e
  obtain ⟨s4, s5⟩ := s3 hv
  refine ⟨h.ok, h.co, by rw [List.length_set]; exact h.li, h.xs, s4, fun j hj => (h.pt j hj).mono (Nat.le_succ n), fun q eq heq => ?_⟩
  have eX : (Mst.mk S.ps (S.en.set i enE) (saveEs c S.es i e) S.xs).X = if e.di = true then lnPut S.X i e.l else S.X := s5
  rw [eX]
  rw [List.getElem?_set] at heq
  split at heq
  · rename_i hiq
    subst hiq
    split at heq
    · injection heq with heq
      subst heq
      refine hl.drop h.ok.co1 hr ?_
      split
      · exact ln_put_same _ _ _ (fit_line h.lX hi) e.h
      · rename_i hd
        exact hl.mem1 hh (by simpa using hd)
    · cases heq
  · rename_i hiq
    refine (h.ln q eq heq).mem ?_
    split
    · exact ln_put_other _ _ _ _ (fit_line h.lX hi) e.h hiq
    · rfl
theorem Inv.drain (li : Int) : Inv c (n + 1) ⟨S.ps, S.en, drainEs S.es li, drainXs S.xs S.es li⟩ cur := by
  have hx : Lie c.li (drainEs S.es li) ∧ (drainXs S.xs S.es li).length = c.li * 8 ∧ over (drainXs S.xs S.es li) (drainEs S.es li) = S.X := by
    by_cases hf : firstAt S.es li < S.es.length
    · obtain ⟨e, he, hp, hb⟩ := first_some hf
      refine ⟨h.lie.sub (fun x hx => List.mem_of_mem_eraseIdx hx), ?_, ?_⟩
      · unfold drainXs
        rw [he]
        show (lnPut S.xs e.pos e.l).length = _
        rw [lnPut_length _ _ _ (fit_line h.xs (h.lie.get he)) e.h]
        exact h.xs
      · unfold drainXs drainEs
        rw [he]
        exact over_drain S.xs h.xs h.lie he (fun x hx => by have := hb x hx; omega)
    · unfold drainEs drainXs
      rw [List.eraseIdx_of_length_le (by omega), List.getElem?_eq_none (by omega)]
      exact ⟨h.lie, h.xs, rfl⟩
  refine ⟨h.ok, h.co, h.li, hx.2.1, hx.1, fun j hj => (h.pt j hj).mono (Nat.le_succ n), fun q eq heq => ?_⟩
  have eX : (Mst.mk S.ps S.en (drainEs S.es li) (drainXs S.xs S.es li)).X = S.X := hx.2.2
  rw [eX]
  exact h.ln q eq heq
end
/-- A system that was made. -/
theorem Inv.fresh (c : Cg) (hc : c.Ok) (xs : List Int) (hx : xs.length = c.li * 8) : Inv c 0 ⟨List.replicate c.co (pt0 c), List.replicate c.li enE, [], xs⟩ (fun i => Go.Proofs.YtcjoinhngdfdmaaGreatDoor.ln xs i) := by
  have hgood : Good c.se c.wa (List.replicate (c.se * c.wa) sltZ) := by
    have := hc.new
    unfold goodNew at this
    exact Good.new (by omega) (by omega) (by omega)
  have haj : AJ c.se c.wa c.li (st0 c) := ⟨OnceAt.new hgood, Sane.new _, Int.le_refl 0, fun x hx h0 => by rw [List.eq_of_mem_replicate hx] at h0; exact absurd rfl h0⟩
  have hat : ∀ j, j < c.co → atP (List.replicate c.co (pt0 c)) j = pt0 c := fun j hj => atP_of (by rw [List.getElem?_replicate, if_pos hj])
  have hfind : ∀ li, findVal (st0 c).1 li = sltZ := fun li => find_none (fun x hx => by rw [List.eq_of_mem_replicate hx]; rfl)
  refine ⟨hc, by simp, by simp, hx, Lie.nil _, fun j hj => ?_, fun i e he => ?_⟩
  · rw [hat j hj]
    exact ⟨haj, Int.le_refl 0, Nat.le_refl 0, Nat.le_refl 0, Nat.le_refl 0, fun m hm => (by cases hm), fun m hm => (by cases hm), fun m hm => (by cases hm)⟩
  · rw [List.getElem?_replicate] at he
    split at he
    · injection he with he
      subst he
      refine ⟨rfl, ⟨by show (-1 : Int) < c.co; omega, by show (0 : Int) < c.co; have := hc.co1; omega, fun j _ h1 => ?_, fun j _ h1 => ?_⟩, fun j hj => ?_, fun h1 => absurd (show false = true from h1) (by decide), fun _ => rfl, fun h1 => absurd (show false = true from h1) (by decide), fun h1 => absurd (show (0 : Int) = 1 from h1) (by decide), fun h1 => absurd (show (0 : Int) = 2 from h1) (by decide)⟩
      · have h2 : hasM 0#8 (j : Int) = true := h1
        rw [has_zero] at h2; cases h2
      · have h2 : hasM 0#8 (j : Int) = true := h1
        rw [has_zero] at h2; cases h2
      · simp only [hat j hj]
        have e1 : vst (pt0 c) i = 0 := by unfold vst vw; rw [show (pt0 c).s = st0 c from rfl, hfind]; rfl
        rw [e1, bOf_0 (show enE.bu = 0 from rfl)]
        show Rel _ _ _ (decide ((-1 : Int) = (j : Int))) (hasM 0#8 j) (hasM 0#8 j) 0 0 _ [] [] []
        rw [decide_eq_false (by omega), has_zero]
        exact .base (.i _)
    · cases he
end Go.Proofs.YtcjoinhngdfdmaaGreatDoor
end
section
namespace Go.Proofs.YtcjoinhngdfdmaaGreatDoor
open Go.RowKit
set_option linter.unusedVariables false
set_option maxHeartbeats 1000000

/-! ### Every step keeps what holds -/
theorem Asks.msgs {n : Nat} {s s' : Sta} {ms : List Ms} (h : Asks n s s' ms) (hn : n ≤ 64) : ms.length ≤ 1 ∧ ∀ m ∈ ms, mg m = true := by
  rcases h with ⟨rfl, _⟩ | ⟨li, h0, hl, ha, _⟩
  · exact ⟨Nat.zero_le _, fun m hm => by cases hm⟩
  · obtain ⟨m, rfl, _, _, _, h4⟩ := ha.msg (by unfold lineB; simp; omega)
    exact ⟨Nat.le_refl 1, fun a hm => by rw [List.mem_singleton] at hm; subst hm; exact h4⟩
theorem inB_iff {k : Int} {n : Nat} : inB k n = true ↔ 0 ≤ k ∧ k < n := by unfold inB; simp
section
variable {c : Cg} {n : Nat} {S : Mst} {cur : Nat → List Int} (h : Inv c n S cur)
include h
theorem Inv.next : Inv c (n + 1) S cur := h.mono (Nat.le_succ n)
theorem Inv.loadM (k li wd : Int) : Inv c (n + 1) (loadM c S k li wd).1 cur := by
  unfold Go.Proofs.YtcjoinhngdfdmaaGreatDoor.loadM
  cases hp : portAt c S k with
  | none => exact h.next
  | some x =>
    obtain ⟨j, rfl, hj, hx, _, hP, _⟩ := h.port hp
    dsimp only
    split
    · rename_i hl
      obtain ⟨a, b, _⟩ := hP.aj.loadF (inB_iff.1 hl).2 wd
      exact h.ag hj hx b a loadF_u.2
    · exact h.next
theorem Inv.reachM (k li : Int) : Inv c (n + 1) (reachM c S k li).1 cur := by
  unfold Go.Proofs.YtcjoinhngdfdmaaGreatDoor.reachM
  cases hp : portAt c S k with
  | none => exact h.next
  | some x =>
    obtain ⟨j, rfl, hj, hx, _, hP, _⟩ := h.port hp
    dsimp only
    split
    · rename_i hl
      split
      · exact h.next
      · obtain ⟨a, b⟩ := hP.aj.reachF (inB_iff.1 hl).2
        exact h.ag hj hx b a reachF_u.2
    · exact h.next
theorem Inv.evictM (k li : Int) : Inv c (n + 1) (evictM c S k li).1 cur := by
  unfold Go.Proofs.YtcjoinhngdfdmaaGreatDoor.evictM
  cases hp : portAt c S k with
  | none => exact h.next
  | some x =>
    obtain ⟨j, rfl, hj, hx, _, hP, _⟩ := h.port hp
    dsimp only
    split
    · obtain ⟨a, b⟩ := hP.aj.evictF li
      exact h.ag hj hx b a evictF_u.2
    · exact h.next
theorem Inv.flushM (k li kd : Int) : Inv c (n + 1) (flushM c S k li kd).1 cur := by
  unfold Go.Proofs.YtcjoinhngdfdmaaGreatDoor.flushM
  cases hp : portAt c S k with
  | none => exact h.next
  | some x =>
    obtain ⟨j, rfl, hj, hx, _, hP, _⟩ := h.port hp
    dsimp only
    split
    · rename_i hl
      exact (h.flush hj hx hl.1 hl.2).1
    · exact h.next
/-- A word is stored, or not; what the line was. -/
theorem Inv.storeM (k li wd v : Int) : Inv c (n + 1) (storeM c S k li wd v).1 (if (storeM c S k li wd v).2.hit = true then fun i => if (i : Int) = li then (cur i).set wd.toNat v else cur i else cur) ∧ ((storeM c S k li wd v).2.hit = true → inB k c.co = true ∧ inB li c.li = true ∧ isWd wd = true) := by
  cases hp : portAt c S k with
  | none =>
    have e : Go.Proofs.YtcjoinhngdfdmaaGreatDoor.storeM c S k li wd v = (S, did0) := by unfold Go.Proofs.YtcjoinhngdfdmaaGreatDoor.storeM; rw [hp]
    rw [e]
    exact ⟨h.next, fun h => by cases h⟩
  | some x =>
    obtain ⟨j, rfl, hj, hx, _, hP, hb⟩ := h.port hp
    by_cases hl : inB li c.li = true
    · have e : Go.Proofs.YtcjoinhngdfdmaaGreatDoor.storeM c S j li wd v = (S.put j { x with s := (storeF c.se c.wa x.s li wd v).1, up := x.up ++ (storeF c.se c.wa x.s li wd v).2.2 }, ⟨0, (storeF c.se c.wa x.s li wd v).2.1, msZ, 0⟩) := by
        unfold Go.Proofs.YtcjoinhngdfdmaaGreatDoor.storeM; rw [hp]; exact if_pos hl
      rw [e]
      dsimp only
      obtain ⟨l0, ln⟩ := inB_iff.1 hl
      obtain ⟨i, rfl⟩ : ∃ i : Nat, li = (i : Int) := ⟨li.toNat, by omega⟩
      obtain ⟨a, ⟨b1, b2, _, b3, b4, b5, b6⟩ | ⟨b1, b2⟩⟩ := hP.aj.storeF ln wd v
      · rw [b1, b4, List.append_nil, if_pos rfl]
        refine ⟨?_, fun _ => ⟨hb, hl, b2⟩⟩
        obtain ⟨q1, q2⟩ := h.write hj hx ((vw x.s i).2.set wd.toNat v) b3 b5 b6 a storeF_u.2
        rw [q2] at q1
        have e : (fun p : Nat => if (p : Int) = (i : Int) then (cur p).set wd.toNat v else cur p) = fun p => if p = i then (cur i).set wd.toNat v else cur p := by
          funext p
          by_cases hpi : p = i
          · subst hpi; rw [if_pos rfl, if_pos rfl]
          · rw [if_neg (by omega), if_neg hpi]
        rw [e]
        exact q1
      · rw [b1]
        exact ⟨h.ag hj hx b2 a storeF_u.2, fun h => by cases h⟩
    · have e : Go.Proofs.YtcjoinhngdfdmaaGreatDoor.storeM c S j li wd v = (S, did0) := by unfold Go.Proofs.YtcjoinhngdfdmaaGreatDoor.storeM; rw [hp]; exact if_neg hl
      rw [e]
      exact ⟨h.next, fun h => by cases h⟩
theorem Inv.upM (k : Int) : Inv c (n + 1) (upM c S k).1 cur ∧ (inB k c.co = true → (upM c S k).2.e = 0 ∨ (upM c S k).2.e = 14 ∨ (upM c S k).2.e = 15) := by
  unfold Go.Proofs.YtcjoinhngdfdmaaGreatDoor.upM
  cases hp : portAt c S k with
  | none => exact ⟨h.next, fun hb => absurd (hb.symm.trans (h.portNone hp)) (by decide)⟩
  | some x =>
    obtain ⟨j, rfl, hj, hx, _, hP, hb⟩ := h.port hp
    dsimp only
    cases hu : x.up with
    | nil => exact ⟨h.next, fun _ => .inr (.inl rfl)⟩
    | cons m rest =>
      obtain ⟨i, e, hi, hic, he, hc⟩ := h.up hj hx hu
      have ei : i = m.li.toNat := by omega
      subst ei
      dsimp only
      rw [he]
      dsimp only
      rcases hc with ⟨_, h2⟩ | ⟨_, o, a, e', h2, _, _, h3⟩
      · rw [h2, if_neg (by decide)]
        exact ⟨h.next, fun _ => .inr (.inr rfl)⟩
      · rw [h2, if_pos rfl]
        exact ⟨h3, fun _ => .inl rfl⟩
theorem Inv.answerM (k : Int) : Inv c (n + 1) (answerM c S k).1 cur ∧ (inB k c.co = true → (answerM c S k).2.e = 0 ∨ (answerM c S k).2.e = 14) := by
  unfold Go.Proofs.YtcjoinhngdfdmaaGreatDoor.answerM
  cases hp : portAt c S k with
  | none => exact ⟨h.next, fun hb => absurd (hb.symm.trans (h.portNone hp)) (by decide)⟩
  | some x =>
    obtain ⟨j, rfl, hj, hx, _, hP, hb⟩ := h.port hp
    dsimp only
    cases hu : x.an with
    | nil => exact ⟨h.next, fun _ => .inr rfl⟩
    | cons m rest =>
      obtain ⟨i, e, hi, hic, he, o, a, e', h2, _, _, h3⟩ := h.answer hj hx hu
      dsimp only
      rw [hi, Int.toNat_natCast, he]
      dsimp only
      rw [h2, if_pos rfl]
      exact ⟨h3, fun _ => .inl rfl⟩
end
theorem find_live (xs : List Slt) (li : Int) : findVal xs li = ((live xs).find? (fun x => x.li == li)).getD sltZ := by
  unfold live
  rw [List.find?_filter]
  have e : (fun a : Slt => decide ((a.st != 0) = true ∧ (a.li == li) = true)) = pLine li := by
    funext a; unfold pLine; by_cases h1 : a.st = 0 <;> by_cases h2 : a.li = li <;> simp [h1, h2]
  rw [e]
  rcases find_mem xs li with ⟨_, h2, h3⟩ | ⟨h1, h3, h2⟩
  · unfold findVal
    unfold dropVal at h3
    have hlt := of_decide_eq_true h3
    have := List.findIdx_getElem (w := hlt)
    rw [List.getElem?_eq_getElem hlt]
    have h4 : xs.find? (pLine li) = some xs[xs.findIdx (pLine li)] := by
      rw [List.find?_eq_some_iff_getElem]
      refine ⟨this, xs.findIdx (pLine li), hlt, rfl, fun j hj => ?_⟩
      have := List.not_of_lt_findIdx hj
      simpa using this
    rw [h4]; rfl
  · rw [h1]
    have : xs.find? (pLine li) = none := by
      rw [List.find?_eq_none]
      intro x hx
      rw [h2 x hx]; decide
    rw [this]; rfl
theorem tb_ne (kd st : Int) (h14 : kd ≠ 14) (h : tb kd st ≠ 0) : (tb kd st = 10 ∧ st ≠ 0) ∨ (tb kd st ≠ 10 ∧ tb kd st ≠ 11 ∧ tb kd st ≠ st) := by
  unfold tb at *
  repeat' split at h
  all_goals first | omega | simp_all
  all_goals omega
section
variable {c : Cg} {n : Nat} {S : Mst} {cur : Nat → List Int} (h : Inv c n S cur)
include h
theorem Inv.hearM (k : Int) : Inv c (n + 1) (hearM c S k).1 cur ∧ (inB k c.co = true → (hearM c S k).2.e = 0 ∨ (hearM c S k).2.e = 14) ∧
    (inB k c.co = true → (hearM c S k).2.e = 0 → (hearM c S k).2.m.kd ≠ 14 → live (atP (hearM c S k).1.ps k.toNat).s.1 ≠ live (atP S.ps k.toNat).s.1) := by
  unfold Go.Proofs.YtcjoinhngdfdmaaGreatDoor.hearM
  cases hp : portAt c S k with
  | none => exact ⟨h.next, fun hb => absurd (hb.symm.trans (h.portNone hp)) (by decide), fun hb => absurd (hb.symm.trans (h.portNone hp)) (by decide)⟩
  | some x =>
    obtain ⟨j, rfl, hj, hx, hat, hP, hb⟩ := h.port hp
    dsimp only
    cases hd : x.dn with
    | nil => exact ⟨h.next, fun _ => .inr rfl, fun _ he => absurd (show (14 : Int) = 0 from he) (by decide)⟩
    | cons m rest =>
      obtain ⟨ht, h2, _, _, h3⟩ := h.hear hj hx hd
      dsimp only
      rw [if_pos h2]
      refine ⟨h3, fun _ => .inl rfl, fun _ _ h14 hl => ?_⟩
      rw [Int.toNat_natCast] at hl
      have hk := (List.getElem?_eq_some_iff.1 hx).1
      have e0 : (S.put (j : Int) { x with s := (hearF c.se c.wa x.s m).1, an := x.an ++ (hearF c.se c.wa x.s m).2.1, dn := rest }).ps = S.ps.set j { x with s := (hearF c.se c.wa x.s m).1, an := x.an ++ (hearF c.se c.wa x.s m).2.1, dn := rest } := by unfold Mst.put; rw [Int.toNat_natCast]
      dsimp only at hl h14
      rw [e0, atP_set hk, if_pos rfl, hat] at hl
      obtain ⟨m1, m2, m3⟩ := hP.fd m (by rw [hd]; simp)
      have hg : (mg m && tellsB m.kd) = true := by rw [m1, m2]; rfl
      obtain ⟨_, _, _, v10, _, vno⟩ := hP.aj.hearF hg m3 ht
      have hv : (vw (hearF c.se c.wa x.s m).1 m.li).1 = (vw x.s m.li).1 := by
        unfold vw
        rw [find_live, find_live (x.s.1), hl]
      rcases tb_ne m.kd _ h14 ht with ⟨q1, q2⟩ | ⟨q1, q2, q3⟩
      · rw [v10 q1] at hv; exact q2 hv.symm
      · rw [vno q1 q2] at hv; exact q3 hv
theorem Inv.pushM (li : Int) : Inv c (n + 1) (pushM c S li).1 cur := by
  unfold Go.Proofs.YtcjoinhngdfdmaaGreatDoor.pushM
  split
  · rename_i hl
    obtain ⟨l0, ln⟩ := inB_iff.1 hl
    obtain ⟨i, rfl⟩ : ∃ i : Nat, li = (i : Int) := ⟨li.toNat, by omega⟩
    rw [Int.toNat_natCast]
    obtain ⟨e, he, _⟩ := h.entry (i := i) (by omega)
    rw [he]
    dsimp only
    by_cases hr : readyE e = true
    · rw [if_pos hr]
      by_cases hv : saveV c S.es i e = 0
      · rw [if_pos hv]; exact (h.push (by omega) he hr).2.2.2 hv
      · rw [if_neg hv]
        dsimp only
        rw [(h.saved (show i < c.li by omega) e).2.1 hv]
        exact h.next
    · rw [if_neg hr]; exact h.next
  · exact h.next
theorem Inv.dropM (li : Int) : Inv c (n + 1) (dropM c S li).1 cur := by
  unfold Go.Proofs.YtcjoinhngdfdmaaGreatDoor.dropM
  split
  · rename_i hl
    obtain ⟨l0, ln⟩ := inB_iff.1 hl
    obtain ⟨i, rfl⟩ : ∃ i : Nat, li = (i : Int) := ⟨li.toNat, by omega⟩
    rw [Int.toNat_natCast]
    obtain ⟨e, he, _⟩ := h.entry (i := i) (by omega)
    rw [he]
    dsimp only
    by_cases hr : keptE e = true
    · rw [if_pos hr]; exact h.next
    · rw [if_neg hr]
      by_cases hv : saveV c S.es i e = 0
      · rw [if_pos hv]; exact h.drop (by omega) he (by simpa using hr) hv
      · rw [if_neg hv]
        dsimp only
        rw [(h.saved (show i < c.li by omega) e).2.1 hv]
        exact h.next
  · exact h.next
theorem Inv.drainM (li : Int) : Inv c (n + 1) (drainM c S li).1 cur := by
  unfold Go.Proofs.YtcjoinhngdfdmaaGreatDoor.drainM
  split
  · exact h.drain li
  · exact h.next
theorem Inv.failM : Inv c (n + 1) (failM c S) (fun i => Go.Proofs.YtcjoinhngdfdmaaGreatDoor.ln (failM c S).X i) := by
  refine (Inv.fresh c h.ok (forget S.X c.vo) ?_).mono (Nat.zero_le _)
  rw [forget_length _ _ (by rw [h.lX]; have := h.ok.vol; omega)]
  exact h.lX
/-- Every step. -/
theorem Inv.step (kd co li wd v : Int) : Inv c (n + 1) (stepM c S kd co li wd v).1 (curM c S kd co li wd v cur) := by
  unfold stepM curM
  by_cases h0 : kd = 0
  · subst h0; exact h.loadM co li wd
  rw [if_neg h0]
  by_cases h1 : kd = 1
  · subst h1; exact (h.storeM co li wd v).1
  rw [if_neg h1, if_neg h1]
  by_cases h2 : kd = 2
  · subst h2; exact h.reachM co li
  rw [if_neg h2]
  by_cases h3 : kd = 3
  · subst h3; exact h.flushM co li _
  rw [if_neg h3]
  by_cases h4 : kd = 4
  · subst h4; exact (h.upM co).1
  rw [if_neg h4]
  by_cases h5 : kd = 5
  · subst h5; exact (h.answerM co).1
  rw [if_neg h5]
  by_cases h6 : kd = 6
  · subst h6; exact (h.hearM co).1
  rw [if_neg h6]
  by_cases h7 : kd = 7
  · subst h7; exact h.pushM li
  rw [if_neg h7]
  by_cases h8 : kd = 8
  · subst h8; exact h.evictM co li
  rw [if_neg h8]
  by_cases h9 : kd = 9
  · subst h9; exact h.dropM li
  rw [if_neg h9]
  by_cases h10 : kd = 10
  · subst h10; exact h.drainM li
  rw [if_neg h10]
  by_cases h11 : kd = 11
  · subst h11; exact h.failM
  rw [if_neg h11, if_neg h11]
  exact h.next
end
end Go.Proofs.YtcjoinhngdfdmaaGreatDoor
end
