/- Texts of the walk, one behind the other: Mfk Mga Mgb Mgc Mgf Psa Psb Psc Pua. No condition. -/
import Derived.Test.YtcjoinhngdfdmaaGreatDoorCNag
import Derived.Test.YtcjoinhngdfdmaaGreatDoorCNah
import Derived.Test.YtcjoinhngdfdmaaGreatDoorCNai
import Derived.Test.YtcjoinhngdfdmaaGreatDoorCNal
import Derived.BigQuiet
import Derived.Deep.Cut
import Derived.Deep.CutBlock
import Derived.Deep.CutRange
import Derived.Deep.DeepCutAuto
import Derived.Deep.QuietTactic
import Derived.Deep.RegionHeld3
import Derived.Deep.RegionWith
section
namespace Go.Proofs.YtcjoinhngdfdmaaGreatDoor
open Go.RowKit
set_option linter.unusedVariables false
set_option maxHeartbeats 1000000
set_option maxRecDepth 100000
attribute [local go_sem ↓] append_appS copy_copS clear_clrS make_mkS cell_row frozen_row loadLine storeLine loadSlot storeSlot heap_drew heap_drewN heap_alloc heap_past heap_setCell heap_putRow vs_get slc_st slc_li slc_us slice_slS loadMsg storeMsg loadHas storeHas msc_kd msc_li msc_di msc_ke
attribute [local go_sem] rowCell_some rowFrozen_some rowHas_some rowIn_some rowPart_full rowPart_lit rowPut_full rowPut_lit rowSet_some size_putRow vs_size vs_one wideLine wideSlot run_loadS run_storeS run_appS run_copS run_clrS run_mkS loadW_at storeW_at fit_all fit_le one_int one_bool one_pointer one_slice allOne_list putRow_new ne_size1 ne_size2 ne_size3 ne_size4 zero8_length lines_nil line_eq lit8 slc_size slc_one slc_part slc_in fold_slt fold_slc slc_set_us wideMsg wideHas run_slS msc_size msc_one msc_part msc_in fold_msc msc_putDi msc_putKe msc_putX msc_has ms4_lit
attribute [local simp ↓] heap_drew heap_drewN heap_alloc heap_past heap_setCell heap_putRow
attribute [local simp] rowCell_some rowFrozen_some rowHas_some rowIn_some rowPart_full rowPart_lit rowPut_full rowPut_lit rowSet_some size_putRow vs_size fit_all putRow_new ne_size1 ne_size2 ne_size3 ne_size4 zero8_length slc_size msc_size msc_putDi msc_putKe msc_putX msc_has fit_le
attribute [local go_sem ↓] ec_he ec_di ec_ow ec_sh ec_bu ec_by ec_wa sc_to
attribute [local go_sem] mi_and mi_or mi_not mi_beq0 mi_bne0 ec_size ec_one ec_part ec_in ec_has ec_setDi ec_setOw ec_setSh ec_setBu ec_setBy ec_setWa ec_setSh0 ec_setWa0 ec_putM sc_size sc_one sc_part sc_in
attribute [local simp] ec_size sc_size ec_setDi ec_setOw ec_setSh ec_setBu ec_setBy ec_setWa ec_setSh0 ec_setWa0 ec_putM
attribute [local go_sem ↓] loadEn storeEn loadSd storeSd en_z0
attribute [local go_sem] wideEn wideSd fold_sc size11 putRow_newB putRow_newC ms5_lit
attribute [local simp] en_z0 putRow_newB putRow_newC fit_le ec_has



attribute [local go_sem ↓] mlitZ zenc_po zenc_en zenc_q
attribute [local simp] mlitZ

def Cg.cells (c : Cg) : Array Value := #[.int .i64 c.co, .int .i64 c.li, .int .i64 c.vo, .int .i64 c.se, .int .i64 c.wa, .int .i64 c.qu, .int .i64 c.st]
/-- A system that was made. -/
def MadeSys (W w : World) (c : Cg) (xs : List Int) : Ending → World → Prop := fun e w' => ∃ z L, e = .returned (.tuple #[.pointer (some ⟨z.sy, 0, none⟩), .int .i64 0]) ∧ Msd W w' c z L (List.replicate c.li enE) [] xs ∧ ports L = List.replicate c.co (pt0 c) ∧ Chg [] w w' ∧ ∀ k ∈ z.all L, w.heap.size ≤ k
theorem good_ok (c : Cg) (hc : c.Ok) : goodB c.co c.li c.vo c.se c.wa c.qu c.st = true := by
  obtain ⟨h1, h2, h3, h4, h5, h6, h7, h8, h9, h10, h11⟩ := hc
  unfold goodNew at h7
  unfold goodB
  apply decide_eq_true
  omega
theorem zgood_at (c : Cg) (hc : c.Ok) (w : World) : Calls Tryz.prog 31 #[.agg c.cells] w fun e w' => e = .returned (.bool true) ∧ Chg [] w w' :=
  (good_any c.co c.li c.vo c.se c.wa c.qu c.st w).mono fun e w' ⟨he, hw⟩ => ⟨by rw [he, good_ok c hc], by subst hw; exact (Chg.refl [] w).alloc _⟩
theorem cg_size (c : Cg) : c.cells.size = 7 := rfl
theorem cg_one (c : Cg) : allOne c.cells := allOne_list _ rfl
theorem cg_li (c : Cg) : c.cells[1]? = some (.int .i64 c.li) := rfl
theorem cg_vo (c : Cg) : c.cells[2]? = some (.int .i64 c.vo) := rfl
theorem cg_qu (c : Cg) : c.cells[5]? = some (.int .i64 c.qu) := rfl
/-- A system's cells ahead of its ports and entries. -/
def sysZ (c : Cg) (q : Option Nat) : Array Value := (c.enc ++ ([.pointer (q.map fun k => ⟨k, 0, none⟩), .slice none 0 0, .slice none 0 0] : List Value) ++ List.replicate 6 (Value.int .u64 0)).toArray
theorem fold_cg0 (c : Cg) : Array.foldl (fun cs y => cs.setIfInBounds (0 + y.snd) y.fst) (#[.int .i64 0, .int .i64 0, .int .i64 0, .int .i64 0, .int .i64 0, .int .i64 0, .int .i64 0, .pointer none, .slice none 0 0, .slice none 0 0, .int .u64 0, .int .u64 0, .int .u64 0, .int .u64 0, .int .u64 0, .int .u64 0] : Array Value) c.cells.zipIdx 0 7 = sysZ c none := by
  rw [fold_put _ _ 0 7 rfl (by simp)]
  simp [splice, sysZ, Cg.cells, Cg.enc]
theorem fold_cg (c : Cg) : Array.foldl (fun cs y => cs.setIfInBounds y.snd y.fst) (#[.int .i64 0, .int .i64 0, .int .i64 0, .int .i64 0, .int .i64 0, .int .i64 0, .int .i64 0, .pointer none, .slice none 0 0, .slice none 0 0, .int .u64 0, .int .u64 0, .int .u64 0, .int .u64 0, .int .u64 0, .int .u64 0] : Array Value) c.cells.zipIdx 0 7 = sysZ c none := by
  have := fold_cg0 c
  simp only [Nat.zero_add] at this
  exact this
theorem sysZ_put (c : Cg) (q : Nat) : (sysZ c none).setIfInBounds 7 (.pointer (some ⟨q, 0, none⟩)) = sysZ c (some q) := rfl
theorem sysZ_size (c : Cg) (q : Option Nat) : (sysZ c q).size = 16 := rfl
theorem sysZ_enc (c : Cg) (q : Nat) : ∀ z : Lay, z.q = q → z.ks = List.replicate 6 0 → ((sysZ c (some q)).setIfInBounds 8 (.slice (some ⟨z.po, 0, none⟩) c.co c.co)).setIfInBounds 9 (.slice (some ⟨z.en, 0, none⟩) c.li c.li) = (z.enc c).toArray := by
  rintro z rfl h
  unfold Lay.enc sysZ
  rw [h]
  rfl
attribute [local go_sem] fold_cg fold_cg0 sysZ_put sysZ_size
theorem wideCg : Wide Tryz.prog 28 7 := ⟨⟨_, Tryz.underlying28, by rfl⟩, by kernel_rfl⟩
theorem loadCg (x : Value) : Instr.loadAt 28 x = loadS 28 7 x := rfl
attribute [local go_sem ↓] loadCg cg_li cg_vo cg_qu
theorem cg_part (c : Cg) (t : TypeId) (f : Nat × Nat) : rowPart (some (.cells c.cells t f)) 0 7 = c.cells := rowPart_full _ _ _ _ rfl
attribute [local go_sem] wideCg cg_size cg_one cg_part
theorem znew_none (W w : World) (c : Cg) (hc : c.Ok) (hW : Chg [] W w) (A : Option Addr) (nc : Nat) : Calls Tryz.prog 10 #[.agg c.cells, .slice A 0 nc] w (MadeSys W w c (List.replicate (c.li * 8) 0)) := by
  have HC := Lib.hid hc
  have HW := Lib.hid hW
  clear hc hW
  go_enter Tryz.func10, Tryz.ntmps10
  try dsimp only [List.append]
  go_wp2_with fail
  have r1 : (w.alloc (.cells c.cells 28)).heap[w.heap.size]? = some (.cells c.cells 28 (0, 0)) := by simp
  have C1 := Lib.hid ((Chg.refl [] w).alloc (.cells c.cells 28))
  refine (zgood_at c HC.out _).mono ?_
  rintro e w2 ⟨rfl, c2⟩
  replace r1 := c2.keep r1 List.not_mem_nil
  have o1 := old r1
  have C2 := Lib.hid (C1.out.trans c2)
  clear C1 c2
  generalize w.heap.size = b1 at r1 o1 ⊢
  go_wp2_with fail
  refine (new_ok c.li c.vo w2 HC.out.li2 HC.out.li64 HC.out.vo1 HC.out.vol).mono ?_
  rintro e w3 ⟨rfl, c3, hdev, hsz⟩
  replace r1 := c3.keep r1 List.not_mem_nil
  replace o1 := old r1
  have C3 := Lib.hid (C2.out.trans c3)
  have HD := Lib.hid hdev
  have HL := Lib.hid C2.out.size
  have HGB := Lib.hid (show w.heap.size ≤ w2.heap.size + 1 ∧ w.heap.size ≤ w2.heap.size from ⟨by have := C2.out.size; omega, C2.out.size⟩)
  generalize w2.heap.size + 1 = g at HD HGB ⊢
  generalize w2.heap.size = b at HD HL HGB
  clear c3 hsz
  have HG := Lib.hid (show w.heap.size ≤ g ∧ w.heap.size ≤ b from HGB.out)
  go_wp2_with fail
  refine (wsys_new W c.li c.vo c.qu w3 g b _ (HW.out.trans C3.out) HD.out (Nat.le_trans HW.out.size HG.out.1) (Nat.le_trans HW.out.size HG.out.2) HC.out.qu1 HC.out.qu16).mono ?_
  rintro e w4 ⟨q, rfl, hsys, c4, hq⟩
  replace r1 := c4.keep r1 List.not_mem_nil
  replace o1 := old r1
  have HS4 := Lib.hid hsys
  have HQ := Lib.hid hq
  have C4 := Lib.hid (C3.out.trans c4)
  clear hsys hq c4
  go_upto_region 9 with fail
  have rS : (w4.alloc (.cells (sysZ c (some q)) 91)).heap[w4.heap.size]? = some (.cells (sysZ c (some q)) 91 (0, 0)) := new_blk _ _
  have K5 := Lib.hid ((Chg.refl [] w4).alloc (.cells (sysZ c (some q)) 91))
  have NS := Lib.hid (Nat.le_refl w4.heap.size)
  have NQ := Lib.hid (show q < w4.heap.size ∧ g < w4.heap.size ∧ b < w4.heap.size from ⟨HS4.out.2.1.oldq.lt, HS4.out.2.2.1.oldg, HS4.out.2.2.1.oldb⟩)
  have SY0 := Lib.hid C4.out.size
  have HSZ := Lib.hid (show w4.heap.size ≤ (w4.alloc (.cells (sysZ c (some q)) 91)).heap.size by simp)
  generalize w4.heap.size = sy at rS NS NQ SY0 HSZ ⊢
  generalize w4.alloc (.cells (sysZ c (some q)) 91) = w5 at rS K5 HSZ ⊢
  have hf := forget_ok W w5 c HC.out sy (sysZ c (some q)) ((HW.out.trans C4.out).trans K5.out) (Nat.le_trans HW.out.size SY0.out) rS rfl rfl rfl rfl _ _ rfl rfl
  have HF := Lib.hid hf
  have HRS := Lib.hid rS
  clear hf rS r1 o1
  go_wp2_with fail
  refine HF.out.mono ?_
  rintro e w6 ⟨rfl, hfr⟩
  have hS5 := HS4.out.keep K5.out
  have hap := HS4.out.2.2.2.1
  have hgb : g ≠ b := by obtain ⟨_, _, _, _, _, _, _, h⟩ := HS4.out.2.2.1; exact h
  have hnd : ([sy, q, g, b] ++ opt q q).Nodup := by
    have h1 := NQ.out
    obtain ⟨a1, a2, a3, a4⟩ := hap
    simp [opt]
    omega
  obtain ⟨po, en, L, hm, hp, hc6, hk6⟩ := msd_fresh (z := ⟨sy, q, q, g, b, 0, 0, List.replicate 6 0⟩) (fun po en => sysZ_enc c q ⟨sy, q, q, g, b, po, en, List.replicate 6 0⟩ rfl rfl) ((HW.out.trans C4.out).trans K5.out) HRS.out (Nat.le_trans HW.out.size SY0.out) (by simp) hS5 hnd hfr
  have HFIN := Lib.hid (show MadeSys W w c (List.replicate (c.li * 8) 0) (.returned (.tuple #[.pointer (some ⟨sy, 0, none⟩), .int .i64 0])) w6 by
    refine ⟨⟨sy, q, q, g, b, po, en, List.replicate 6 0⟩, L, rfl, hm, hp, ((C4.out.trans K5.out).mono (by simp)).trans' hc6 (fun x hx => .inr (by rw [List.mem_singleton.1 hx]; exact SY0.out)), ?_⟩
    intro k hk
    have h1 := HQ.out
    have h2 := HG.out
    have h3 := C3.out.size
    have h4 := SY0.out
    have h5 := C4.out.size
    have h6 := K5.out.size
    rcases hk6 k hk with h | h
    · simp [opt] at h
      omega
    · have := HSZ.out
      omega)
  clear hfr hm hp hc6 hk6 hnd hS5
  go_wp2_with fail
  go_ret2
  exact HFIN.out
end Go.Proofs.YtcjoinhngdfdmaaGreatDoor
end
section
namespace Go.Proofs.YtcjoinhngdfdmaaGreatDoor
open Go.RowKit
set_option linter.unusedVariables false
set_option maxHeartbeats 1000000
set_option maxRecDepth 100000
attribute [local go_sem ↓] append_appS copy_copS clear_clrS make_mkS cell_row frozen_row loadLine storeLine loadSlot storeSlot heap_drew heap_drewN heap_alloc heap_past heap_setCell heap_putRow vs_get slc_st slc_li slc_us slice_slS loadMsg storeMsg loadHas storeHas msc_kd msc_li msc_di msc_ke
attribute [local go_sem] rowCell_some rowFrozen_some rowHas_some rowIn_some rowPart_full rowPart_lit rowPut_full rowPut_lit rowSet_some size_putRow vs_size vs_one wideLine wideSlot run_loadS run_storeS run_appS run_copS run_clrS run_mkS loadW_at storeW_at fit_all fit_le one_int one_bool one_pointer one_slice allOne_list putRow_new ne_size1 ne_size2 ne_size3 ne_size4 zero8_length lines_nil line_eq lit8 slc_size slc_one slc_part slc_in fold_slt fold_slc slc_set_us wideMsg wideHas run_slS msc_size msc_one msc_part msc_in fold_msc msc_putDi msc_putKe msc_putX msc_has ms4_lit
attribute [local simp ↓] heap_drew heap_drewN heap_alloc heap_past heap_setCell heap_putRow
attribute [local simp] rowCell_some rowFrozen_some rowHas_some rowIn_some rowPart_full rowPart_lit rowPut_full rowPut_lit rowSet_some size_putRow vs_size fit_all putRow_new ne_size1 ne_size2 ne_size3 ne_size4 zero8_length slc_size msc_size msc_putDi msc_putKe msc_putX msc_has fit_le
attribute [local go_sem ↓] ec_he ec_di ec_ow ec_sh ec_bu ec_by ec_wa sc_to
attribute [local go_sem] mi_and mi_or mi_not mi_beq0 mi_bne0 ec_size ec_one ec_part ec_in ec_has ec_setDi ec_setOw ec_setSh ec_setBu ec_setBy ec_setWa ec_setSh0 ec_setWa0 ec_putM sc_size sc_one sc_part sc_in
attribute [local simp] ec_size sc_size ec_setDi ec_setOw ec_setSh ec_setBu ec_setBy ec_setWa ec_setSh0 ec_setWa0 ec_putM
attribute [local go_sem ↓] loadEn storeEn loadSd storeSd en_z0
attribute [local go_sem] wideEn wideSd fold_sc size11 putRow_newB putRow_newC ms5_lit
attribute [local simp] en_z0 putRow_newB putRow_newC fit_le ec_has


/-- A system of what it has, in these blocks. -/
def Mem (W w : World) (c : Cg) (sy : Nat) (F : List Nat) (ps : List Pt) (en : List En) (es : List Ent) (xs : List Int) : Prop := ∃ z L, z.sy = sy ∧ z.all L = F ∧ ports L = ps ∧ Msd W w c z L en es xs
def MemTo (W w : World) (c : Cg) (sy : Nat) (F : List Nat) (ps : List Pt) (en : List En) (es : List Ent) (xs : List Int) (w' : World) : Prop := ∃ F', Mem W w' c sy F' ps en es xs ∧ Chg F w w' ∧ ∀ k ∈ F', k ∈ F ∨ w.heap.size ≤ k
theorem MemTo.of {W w w' : World} {c : Cg} {z z' : Lay} {L L' : List (Po × Pt)} {en : List En} {es : List Ent} {xs : List Int} (h : MTo W w c z L z' L' en es xs w') (hs : z'.sy = z.sy) {ps : List Pt} (hp : ports L' = ps) : MemTo W w c z.sy (z.all L) ps en es xs w' :=
  ⟨z'.all L', ⟨z', L', hs, rfl, hp, h.1⟩, h.2.1, h.2.2⟩
theorem MemTo.trans {W w w1 w2 : World} {c : Cg} {sy : Nat} {F F1 : List Nat} {ps ps2 : List Pt} {en en2 : List En} {es es2 : List Ent} {xs xs2 : List Int} (h1 : Mem W w1 c sy F1 ps en es xs) (h2 : Chg F w w1) (h3 : ∀ k ∈ F1, k ∈ F ∨ w.heap.size ≤ k) (h : MemTo W w1 c sy F1 ps2 en2 es2 xs2 w2) : MemTo W w c sy F ps2 en2 es2 xs2 w2 := by
  obtain ⟨F2, hm, hc, hk⟩ := h
  refine ⟨F2, hm, h2.trans' hc h3, fun k hk2 => ?_⟩
  rcases hk k hk2 with h4 | h4
  · exact h3 k h4
  · exact .inr (Nat.le_trans h2.size h4)
section
variable {W w w' : World} {c : Cg} {sy : Nat} {F : List Nat} {ps : List Pt} {en : List En} {es : List Ent} {xs : List Int} (hm : Mem W w c sy F ps en es xs)
include hm
theorem Mem.keep (hc : Chg [] w w') : Mem W w' c sy F ps en es xs := by
  obtain ⟨z, L, h1, h2, h3, h⟩ := hm
  exact ⟨z, L, h1, h2, h3, h.keep hc⟩
theorem Mem.keepL {l : List Nat} (hc : Chg l w w') (hl : ∀ k ∈ l, k ∉ F) (hw : ∀ k ∈ l, W.heap.size ≤ k) : Mem W w' c sy F ps en es xs := by
  obtain ⟨z, L, h1, rfl, h3, h⟩ := hm
  exact ⟨z, L, h1, rfl, h3, h.keepL hc hl hw⟩
theorem Mem.stay (hc : Chg [] w w') : MemTo W w c sy F ps en es xs w' := ⟨F, hm.keep hc, hc.mono (by simp), fun k hk => .inl hk⟩
theorem Mem.chg : Chg [] W w := by obtain ⟨z, L, _, _, _, h⟩ := hm; exact h.chg
theorem Mem.old : ∀ k ∈ F, k < w.heap.size := by obtain ⟨z, L, _, rfl, _, h⟩ := hm; exact h.old
theorem Mem.new : ∀ k ∈ F, W.heap.size ≤ k := by obtain ⟨z, L, _, rfl, _, h⟩ := hm; exact h.new
theorem Mem.cores : ps.length = c.co := by obtain ⟨z, L, _, _, rfl, h⟩ := hm; unfold ports; rw [List.length_map]; exact h.cores
theorem Mem.lines : en.length = c.li := by obtain ⟨z, L, _, _, _, h⟩ := hm; exact h.lines
theorem mload_ok (i : Nat) (li k : Int) (x : Pt) (hy : ps[i]? = some x) (hT : Tab W) (hl : inB li c.li = true) (hu : x.s.2 ≤ 1000000000) (hq : x.up.length < 1000) (hma : ∀ m ∈ (loadF c.se c.wa x.s li k).2.2.2, mg m = true) (h1 : (loadF c.se c.wa x.s li k).2.2.2.length ≤ 1) :
    Calls Tryz.prog 138 #[.pointer (some ⟨sy, 0, none⟩), .int .i64 i, .int .i64 li, .int .i64 k] w fun e w' => e = .returned (.tuple #[.int .u64 (loadF c.se c.wa x.s li k).2.1, .bool (loadF c.se c.wa x.s li k).2.2.1]) ∧ MemTo W w c sy F (ps.set i { x with s := (loadF c.se c.wa x.s li k).1, up := x.up ++ (loadF c.se c.wa x.s li k).2.2.2 }) en es xs w' := by
  obtain ⟨z, L, rfl, rfl, rfl, h⟩ := hm
  obtain ⟨p, hp⟩ := ports_of hy
  exact (zload_ok i li k p x w h hT hp hl hu hq hma h1).mono fun e w' ⟨he, p', M⟩ => ⟨he, MemTo.of M rfl (ports_set ..)⟩
theorem mstore_ok (i : Nat) (li k v : Int) (x : Pt) (hy : ps[i]? = some x) (hT : Tab W) (hl : inB li c.li = true) (hu : x.s.2 ≤ 1000000000) (hq : x.up.length < 1000) (hma : ∀ m ∈ (storeF c.se c.wa x.s li k v).2.2, mg m = true) (h1 : (storeF c.se c.wa x.s li k v).2.2.length ≤ 1) :
    Calls Tryz.prog 88 #[.pointer (some ⟨sy, 0, none⟩), .int .i64 i, .int .i64 li, .int .i64 k, .int .u64 v] w fun e w' => e = .returned (.bool (storeF c.se c.wa x.s li k v).2.1) ∧ MemTo W w c sy F (ps.set i { x with s := (storeF c.se c.wa x.s li k v).1, up := x.up ++ (storeF c.se c.wa x.s li k v).2.2 }) en es xs w' := by
  obtain ⟨z, L, rfl, rfl, rfl, h⟩ := hm
  obtain ⟨p, hp⟩ := ports_of hy
  exact (zstore_ok i li k v p x w h hT hp hl hu hq hma h1).mono fun e w' ⟨he, p', M⟩ => ⟨he, MemTo.of M rfl (ports_set ..)⟩
theorem mreach_own (i : Nat) (li : Int) (x : Pt) (hy : ps[i]? = some x) (hl : inB li c.li = true) (ho : ownsB x.s.1 li = true) :
    Calls Tryz.prog 140 #[.pointer (some ⟨sy, 0, none⟩), .int .i64 i, .int .i64 li] w fun e w' => e = .returned (.bool true) ∧ Chg [] w w' := by
  obtain ⟨z, L, rfl, rfl, rfl, h⟩ := hm
  obtain ⟨p, hp⟩ := ports_of hy
  exact zreach_own i li p x w h hp hl ho
theorem mreach_ok (i : Nat) (li : Int) (x : Pt) (hy : ps[i]? = some x) (hT : Tab W) (hl : inB li c.li = true) (ho : ownsB x.s.1 li = false) (hu : x.s.2 ≤ 1000000000) (hq : x.up.length < 1000) (hma : ∀ m ∈ (reachF c.se c.wa x.s li).2, mg m = true) (h1 : (reachF c.se c.wa x.s li).2.length ≤ 1) :
    Calls Tryz.prog 140 #[.pointer (some ⟨sy, 0, none⟩), .int .i64 i, .int .i64 li] w fun e w' => e = .returned (.bool false) ∧ MemTo W w c sy F (ps.set i { x with s := (reachF c.se c.wa x.s li).1, up := x.up ++ (reachF c.se c.wa x.s li).2 }) en es xs w' := by
  obtain ⟨z, L, rfl, rfl, rfl, h⟩ := hm
  obtain ⟨p, hp⟩ := ports_of hy
  exact (zreach_ok i li p x w h hT hp hl ho hu hq hma h1).mono fun e w' ⟨he, p', M⟩ => ⟨he, MemTo.of M rfl (ports_set ..)⟩
theorem mload_no (k li : Int) (wd : Int) (hk : inB k c.co = false) : Calls Tryz.prog 138 #[.pointer (some ⟨sy, 0, none⟩), .int .i64 k, .int .i64 li, .int .i64 wd] w fun e w' => e = .returned (.tuple #[.int .u64 0, .bool false]) ∧ w = w' := by
  obtain ⟨z, L, rfl, rfl, rfl, h⟩ := hm
  exact zload_no k li wd w h hk
theorem mload_off (i : Nat) (li : Int) (wd : Int) (hi : i < c.co) (hl : inB li c.li = false) : Calls Tryz.prog 138 #[.pointer (some ⟨sy, 0, none⟩), .int .i64 i, .int .i64 li, .int .i64 wd] w fun e w' => e = .returned (.tuple #[.int .u64 0, .bool false]) ∧ w = w' := by
  obtain ⟨z, L, rfl, rfl, rfl, h⟩ := hm
  exact zload_off i li wd w h hi hl
theorem mstore_no (k li : Int) (wd v : Int) (hk : inB k c.co = false) : Calls Tryz.prog 88 #[.pointer (some ⟨sy, 0, none⟩), .int .i64 k, .int .i64 li, .int .i64 wd, .int .u64 v] w fun e w' => e = .returned (.bool false) ∧ w = w' := by
  obtain ⟨z, L, rfl, rfl, rfl, h⟩ := hm
  exact zstore_no k li wd v w h hk
theorem mstore_off (i : Nat) (li : Int) (wd v : Int) (hi : i < c.co) (hl : inB li c.li = false) : Calls Tryz.prog 88 #[.pointer (some ⟨sy, 0, none⟩), .int .i64 i, .int .i64 li, .int .i64 wd, .int .u64 v] w fun e w' => e = .returned (.bool false) ∧ w = w' := by
  obtain ⟨z, L, rfl, rfl, rfl, h⟩ := hm
  exact zstore_off i li wd v w h hi hl
theorem mreach_no (k li : Int)  (hk : inB k c.co = false) : Calls Tryz.prog 140 #[.pointer (some ⟨sy, 0, none⟩), .int .i64 k, .int .i64 li] w fun e w' => e = .returned (.bool false) ∧ w = w' := by
  obtain ⟨z, L, rfl, rfl, rfl, h⟩ := hm
  exact zreach_no k li  w h hk
theorem mreach_off (i : Nat) (li : Int)  (hi : i < c.co) (hl : inB li c.li = false) : Calls Tryz.prog 140 #[.pointer (some ⟨sy, 0, none⟩), .int .i64 i, .int .i64 li] w fun e w' => e = .returned (.bool false) ∧ w = w' := by
  obtain ⟨z, L, rfl, rfl, rfl, h⟩ := hm
  exact zreach_off i li  w h hi hl
end
/-- A system that was made. -/
theorem mnew_none (W w : World) (c : Cg) (hc : c.Ok) (hW : Chg [] W w) (A : Option Addr) (nc : Nat) : Calls Tryz.prog 10 #[.agg c.cells, .slice A 0 nc] w fun e w' => ∃ sy F, e = .returned (.tuple #[.pointer (some ⟨sy, 0, none⟩), .int .i64 0]) ∧ Mem W w' c sy F (List.replicate c.co (pt0 c)) (List.replicate c.li enE) [] (List.replicate (c.li * 8) 0) ∧ Chg [] w w' ∧ ∀ k ∈ F, w.heap.size ≤ k :=
  (znew_none W w c hc hW A nc).mono fun e w' ⟨z, L, he, hm, hp, hc, hk⟩ => ⟨z.sy, z.all L, he, ⟨z, L, rfl, rfl, hp, hm⟩, hc, hk⟩
end Go.Proofs.YtcjoinhngdfdmaaGreatDoor
end
section
namespace Go.Proofs.YtcjoinhngdfdmaaGreatDoor
open Go.RowKit
set_option linter.unusedVariables false
set_option maxHeartbeats 1000000
set_option maxRecDepth 100000
attribute [local go_sem ↓] append_appS copy_copS clear_clrS make_mkS cell_row frozen_row loadLine storeLine loadSlot storeSlot heap_drew heap_drewN heap_alloc heap_past heap_setCell heap_putRow vs_get slc_st slc_li slc_us slice_slS loadMsg storeMsg loadHas storeHas msc_kd msc_li msc_di msc_ke
attribute [local go_sem] rowCell_some rowFrozen_some rowHas_some rowIn_some rowPart_full rowPart_lit rowPut_full rowPut_lit rowSet_some size_putRow vs_size vs_one wideLine wideSlot run_loadS run_storeS run_appS run_copS run_clrS run_mkS loadW_at storeW_at fit_all fit_le one_int one_bool one_pointer one_slice allOne_list putRow_new ne_size1 ne_size2 ne_size3 ne_size4 zero8_length lines_nil line_eq lit8 slc_size slc_one slc_part slc_in fold_slt fold_slc slc_set_us wideMsg wideHas run_slS msc_size msc_one msc_part msc_in fold_msc msc_putDi msc_putKe msc_putX msc_has ms4_lit
attribute [local simp ↓] heap_drew heap_drewN heap_alloc heap_past heap_setCell heap_putRow
attribute [local simp] rowCell_some rowFrozen_some rowHas_some rowIn_some rowPart_full rowPart_lit rowPut_full rowPut_lit rowSet_some size_putRow vs_size fit_all putRow_new ne_size1 ne_size2 ne_size3 ne_size4 zero8_length slc_size msc_size msc_putDi msc_putKe msc_putX msc_has fit_le
attribute [local go_sem ↓] ec_he ec_di ec_ow ec_sh ec_bu ec_by ec_wa sc_to
attribute [local go_sem] mi_and mi_or mi_not mi_beq0 mi_bne0 ec_size ec_one ec_part ec_in ec_has ec_setDi ec_setOw ec_setSh ec_setBu ec_setBy ec_setWa ec_setSh0 ec_setWa0 ec_putM sc_size sc_one sc_part sc_in
attribute [local simp] ec_size sc_size ec_setDi ec_setOw ec_setSh ec_setBu ec_setBy ec_setWa ec_setSh0 ec_setWa0 ec_putM
attribute [local go_sem ↓] loadEn storeEn loadSd storeSd en_z0
attribute [local go_sem] wideEn wideSd fold_sc size11 putRow_newB putRow_newC ms5_lit
attribute [local simp] en_z0 putRow_newB putRow_newC fit_le ec_has



attribute [local go_sem ↓] mlitZ zenc_po zenc_en zenc_q
attribute [local simp] mlitZ

attribute [local go_sem ↓] loadCg cg_li cg_vo cg_qu
attribute [local go_sem] wideCg cg_size cg_one cg_part
section
variable {W w : World} {c : Cg} {sy : Nat} {F : List Nat} {ps : List Pt} {en : List En} {es : List Ent} {xs : List Int} (hm : Mem W w c sy F ps en es xs)
include hm
end
/-! ### The states of what is waked -/
def kc : Cg := ⟨2, 6, 1, 1, 2, 2, 2⟩
theorem kc_ok : kc.Ok := ⟨by decide, by decide, by decide, by decide, by decide, by decide, by decide, by decide, by decide, by decide, by decide⟩
def ke3 : En := ⟨true, true, [0, 7, 0, 0, 0, 0, 0, 0], -1, 3#8, 0, 0, 0#8, rfl⟩
theorem results_cg {fn : Func} {p : Tmp} (h : fn.results = #[.cell p 28]) (tmps : Array Value) (w : World) (b : Nat) (x : Cg) (fr : Nat × Nat)
    (hp : tmps.getD p undef = .pointer (some ⟨b, 0, none⟩)) (hb : w.heap[b]? = some (.cells x.cells 28 fr)) : (results fn tmps).run Tryz.prog w = .ok (.agg x.cells) w := by
  have hp' : tmps[p]?.getD undef = .pointer (some ⟨b, 0, none⟩) := by simpa using hp
  have := run_loadVar_row (P := Tryz.prog) w b 28 28 x.cells fr _ hb Tryz.underlying28 rfl (by rw [cg_size]; kernel_rfl)
  simp [results, h, hp', asAddr, this]
def cgZ : Cg := ⟨0, 0, 0, 0, 0, 0, 0⟩
theorem kc_lit : (#[.int .i64 2, .int .i64 6, .int .i64 1, .int .i64 1, .int .i64 2, .int .i64 2, .int .i64 2] : Array Value) = kc.cells := rfl
theorem storeCg (x y : Value) : Instr.storeAt 28 x y = storeS 28 7 x y := rfl
attribute [local go_sem ↓] storeCg
theorem kplain (w : World) : Calls Tryz.prog 11 #[] w fun e w' => e = .returned (.agg kc.cells) ∧ Chg [] w w' := by
  go_enter Tryz.func11, Tryz.ntmps11
  try dsimp only [List.append]
  go_wp2_with fail
  refine bodyPost_ret (v := .agg kc.cells) ?_ (by rfl) ?_
  · exact results_cg (by rfl) _ _ w.heap.size kc (0, 0) (by rfl) (by rw [← kc_lit]; simp)
  · exact ⟨rfl, by (repeat' (first | with_reducible exact Chg.refl _ _ | with_reducible assumption | with_reducible refine Chg.drew ?_ | with_reducible refine Chg.drewN ?_ _ | with_reducible refine Chg.alloc ?_ _ | with_reducible refine Chg.putRow ?_ _ _ _ (.inr ?_) | with_reducible refine Chg.setCell ?_ _ _ _ (.inr ?_)  | (show _ ≤ _; first | exact Nat.le_refl _ | omega | (simp; done))))⟩
theorem enc_part (z : Lay) (c : Cg) (t : TypeId) (f : Nat × Nat) : rowPart (some (.cells (z.enc c).toArray t f)) 0 7 = c.cells := by
  rw [rowPart_some]; rfl
theorem enc_in (z : Lay) (c : Cg) (t : TypeId) (f : Nat × Nat) : rowIn (some (.cells (z.enc c).toArray t f)) 0 7 = true := by
  rw [rowIn_some]
  exact decide_eq_true (show 0 + 7 ≤ (z.enc c).toArray.size by simp [Lay.enc, Cg.enc])
theorem zconfig_ok {W w : World} {c : Cg} {z : Lay} {L : List (Po × Pt)} {en : List En} {es : List Ent} {xs : List Int} (h : Msd W w c z L en es xs) : Calls Tryz.prog 84 #[.pointer (some ⟨z.sy, 0, none⟩)] w fun e w' => e = .returned (.agg c.cells) ∧ Chg [] w w' := by
  have rS := h.sys
  have oS := old rS
  have p0 := fun t f => enc_part z c t f
  have p1 := fun t f => enc_in z c t f
  clear h
  go_enter Tryz.func84, Tryz.ntmps84
  try dsimp only [List.append]
  go_wp2_with fail
  refine bodyPost_ret (v := .agg c.cells) ?_ (by rfl) ?_
  · exact results_cg (by rfl) _ _ w.heap.size c (0, 0) (by rfl) (by rw [heap_putRow _ _ _ _ _ (by rw [new_blk]; rfl), if_pos rfl, new_blk]; exact rowPut_full _ _ _ _ (by rw [cg_size]; rfl))
  · exact ⟨rfl, by (repeat' (first | with_reducible exact Chg.refl _ _ | with_reducible assumption | with_reducible refine Chg.drew ?_ | with_reducible refine Chg.drewN ?_ _ | with_reducible refine Chg.alloc ?_ _ | with_reducible refine Chg.putRow ?_ _ _ _ (.inr ?_) | with_reducible refine Chg.setCell ?_ _ _ _ (.inr ?_)  | (show _ ≤ _; first | exact Nat.le_refl _ | omega | (simp; done))))⟩
theorem mconfig_ok {W w : World} {c : Cg} {sy : Nat} {F : List Nat} {ps : List Pt} {en : List En} {es : List Ent} {xs : List Int} (hm : Mem W w c sy F ps en es xs) : Calls Tryz.prog 84 #[.pointer (some ⟨sy, 0, none⟩)] w fun e w' => e = .returned (.agg c.cells) ∧ Chg [] w w' := by
  obtain ⟨z, L, rfl, rfl, rfl, h⟩ := hm
  exact zconfig_ok h
theorem kfield_sh (W : World) : (Instr.field 129 (.agg (ec ke3)) 4).run Tryz.prog W = .ok (.int .u8 3) W := by kernel_rfl
theorem kfield_co (W : World) : (Instr.field 28 (.agg kc.cells) 0).run Tryz.prog W = .ok (.int .i64 2) W := by kernel_rfl
attribute [local go_sem ↓] kfield_sh kfield_co

end Go.Proofs.YtcjoinhngdfdmaaGreatDoor
end
section
namespace Go.Proofs.YtcjoinhngdfdmaaGreatDoor
open Go.RowKit
set_option linter.unusedVariables false
set_option maxHeartbeats 1000000
set_option maxRecDepth 100000
attribute [local go_sem ↓] append_appS copy_copS clear_clrS make_mkS cell_row frozen_row loadLine storeLine loadSlot storeSlot heap_drew heap_drewN heap_alloc heap_past heap_setCell heap_putRow vs_get slc_st slc_li slc_us slice_slS loadMsg storeMsg loadHas storeHas msc_kd msc_li msc_di msc_ke
attribute [local go_sem] rowCell_some rowFrozen_some rowHas_some rowIn_some rowPart_full rowPart_lit rowPut_full rowPut_lit rowSet_some size_putRow vs_size vs_one wideLine wideSlot run_loadS run_storeS run_appS run_copS run_clrS run_mkS loadW_at storeW_at fit_all fit_le one_int one_bool one_pointer one_slice allOne_list putRow_new ne_size1 ne_size2 ne_size3 ne_size4 zero8_length lines_nil line_eq lit8 slc_size slc_one slc_part slc_in fold_slt fold_slc slc_set_us wideMsg wideHas run_slS msc_size msc_one msc_part msc_in fold_msc msc_putDi msc_putKe msc_putX msc_has ms4_lit
attribute [local simp ↓] heap_drew heap_drewN heap_alloc heap_past heap_setCell heap_putRow
attribute [local simp] rowCell_some rowFrozen_some rowHas_some rowIn_some rowPart_full rowPart_lit rowPut_full rowPut_lit rowSet_some size_putRow vs_size fit_all putRow_new ne_size1 ne_size2 ne_size3 ne_size4 zero8_length slc_size msc_size msc_putDi msc_putKe msc_putX msc_has fit_le
attribute [local go_sem ↓] ec_he ec_di ec_ow ec_sh ec_bu ec_by ec_wa sc_to
attribute [local go_sem] mi_and mi_or mi_not mi_beq0 mi_bne0 ec_size ec_one ec_part ec_in ec_has ec_setDi ec_setOw ec_setSh ec_setBu ec_setBy ec_setWa ec_setSh0 ec_setWa0 ec_putM sc_size sc_one sc_part sc_in
attribute [local simp] ec_size sc_size ec_setDi ec_setOw ec_setSh ec_setBu ec_setBy ec_setWa ec_setSh0 ec_setWa0 ec_putM
attribute [local go_sem ↓] loadEn storeEn loadSd storeSd en_z0
attribute [local go_sem] wideEn wideSd fold_sc size11 putRow_newB putRow_newC ms5_lit
attribute [local simp] en_z0 putRow_newB putRow_newC fit_le ec_has



attribute [local go_sem ↓] mlitZ zenc_po zenc_en zenc_q
attribute [local simp] mlitZ

/-! ### A step -/
structure MStp where
  kd : Int
  co : Int
  li : Int
  wd : Int
  v : Int
def mstc (x : MStp) : Array Value := #[.int .i64 x.kd, .int .i64 x.co, .int .i64 x.li, .int .i64 x.wd, .int .u64 x.v]
theorem mstc_size (x : MStp) : (mstc x).size = 5 := rfl
theorem mstc_one (x : MStp) : allOne (mstc x) := allOne_list _ rfl
theorem mstc_0 (x : MStp) : (mstc x)[0]? = some (.int .i64 x.kd) := rfl
theorem mstc_1 (x : MStp) : (mstc x)[1]? = some (.int .i64 x.co) := rfl
theorem mstc_2 (x : MStp) : (mstc x)[2]? = some (.int .i64 x.li) := rfl
theorem mstc_3 (x : MStp) : (mstc x)[3]? = some (.int .i64 x.wd) := rfl
theorem mstc_4 (x : MStp) : (mstc x)[4]? = some (.int .u64 x.v) := rfl
attribute [local go_sem ↓] mstc_0 mstc_1 mstc_2 mstc_3 mstc_4
theorem mstc_part (x : MStp) (t : TypeId) (f : Nat × Nat) : rowPart (some (.cells (mstc x) t f)) 0 5 = mstc x := rowPart_full _ _ _ _ rfl
attribute [local go_sem] mstc_size mstc_one mstc_part
theorem cgZ_field (W : World) : (Instr.field 28 (.agg cgZ.cells) 0).run Tryz.prog W = .ok (.int .i64 0) W := by kernel_rfl
attribute [local go_sem ↓] cgZ_field msg_same msg_sameZ
end Go.Proofs.YtcjoinhngdfdmaaGreatDoor
end
section
namespace Go.Proofs.YtcjoinhngdfdmaaGreatDoor
open Go.RowKit
set_option linter.unusedVariables false
set_option maxHeartbeats 1000000


def MTS (W w : World) (c : Cg) (sy : Nat) (F : List Nat) (S : Mst) (w' : World) : Prop := MemTo W w c sy F S.ps S.en S.es S.xs w'
def MS (W w : World) (c : Cg) (sy : Nat) (F : List Nat) (S : Mst) : Prop := Mem W w c sy F S.ps S.en S.es S.xs
section
variable {W w : World} {c : Cg} {sy n : Nat} {F : List Nat} {S : Mst} {cur : Nat → List Int} (hm : MS W w c sy F S) (hI : Inv c n S cur)
include hm
theorem MS.same {w' : World} (hc : Chg [] w w') : MTS W w c sy F S w' := Mem.stay hm hc
include hI
end
end Go.Proofs.YtcjoinhngdfdmaaGreatDoor
end
section
namespace Go.Proofs.YtcjoinhngdfdmaaGreatDoor
open Go.RowKit
set_option linter.unusedVariables false
set_option maxHeartbeats 1000000

/-! ### An agent at rest -/
/-! ### Nothing is on its way -/
structure Quiet (c : Cg) (S : Mst) : Prop where
  q : ∀ j, j < c.co → (atP S.ps j).up = [] ∧ (atP S.ps j).an = [] ∧ (atP S.ps j).dn = []
  bu : ∀ e ∈ S.en, e.bu = 0
section
variable {c : Cg} {n : Nat} {S : Mst} {cur : Nat → List Int} (h : Inv c n S cur) (hq : Quiet c S)
include h hq
/-- What a core has of a line then. -/
theorem Quiet.line {i : Nat} {e : En} (he : S.en[i]? = some e) {j : Nat} (hj : j < c.co) :
    (e.ow ≠ (j : Int) ∧ hasM e.sh j = false ∧ vst (atP S.ps j) i = 0) ∨ (e.ow ≠ (j : Int) ∧ hasM e.sh j = true ∧ vst (atP S.ps j) i = 1 ∧ vln (atP S.ps j) i = cur i) ∨
    (e.ow = (j : Int) ∧ hasM e.sh j = false ∧ (vst (atP S.ps j) i = 2 ∨ vst (atP S.ps j) i = 3) ∧ vln (atP S.ps j) i = cur i) := by
  have hl := h.ln i e he
  have hb := hq.bu e (List.mem_of_getElem? he)
  obtain ⟨q1, q2, q3⟩ := hq.q j hj
  have hr := hl.rel j hj
  have e1 : upL (atP S.ps j) i = [] := by unfold upL; rw [q1]; rfl
  have e2 : anL (atP S.ps j) i = [] := by unfold anL; rw [q2]; rfl
  have e3 : dnL (atP S.ps j) i = [] := by unfold dnL; rw [q3]; rfl
  rw [e1, e2, bOf_0 hb] at hr
  generalize hst : vst (atP S.ps j) i = st at hr ⊢
  generalize hln : vln (atP S.ps j) i = l at hr ⊢
  generalize how : decide (e.ow = (j : Int)) = ow at hr
  generalize hsh : hasM e.sh (j : Int) = sh at hr ⊢
  generalize hwa : hasM e.wa (j : Int) = wa at hr
  generalize dnL (atP S.ps j) i = D at e3 hr
  cases hr with
  | base hb' =>
    subst e3
    cases hb' with
    | i => exact .inl ⟨by simpa using how, rfl, rfl⟩
    | r1 => exact .inr (.inl ⟨by simpa using how, rfl, rfl, rfl⟩)
    | o2 => exact .inr (.inr ⟨by simpa using how, rfl, .inl rfl, rfl⟩)
    | o3 => exact .inr (.inr ⟨by simpa using how, rfl, .inr rfl, rfl⟩)
  | told a h1 => exact absurd e3 (by simp)
end
end Go.Proofs.YtcjoinhngdfdmaaGreatDoor
end
section
namespace Go.Proofs.YtcjoinhngdfdmaaGreatDoor
open Go.RowKit
set_option linter.unusedVariables false
set_option maxHeartbeats 1000000

/-! ### What each call does, in words -/
section
variable {c : Cg} {S : Mst} (hl : S.ps.length = c.co) {j : Nat} (hj : j < c.co)
include hl hj
theorem portAt_nat : portAt c S (j : Int) = some (atP S.ps j) := by
  unfold portAt
  rw [if_pos (inB_iff.2 ⟨by omega, by omega⟩), Int.toNat_natCast]
  exact atP_mem (by omega)
theorem upM_cons {m : Ms} {rest : List Ms} (hu : (atP S.ps j).up = m :: rest) {e : En} (he : S.en[m.li.toNat]? = some e) {r : En × List Sd} (ha : askE (hereP e (lnG S.X m.li.toNat) (lnG_len _ _)) j m = (r, 0)) :
    (upM c S j).1 = ⟨sendP (S.ps.set j { atP S.ps j with up := rest }) r.2, S.en.set m.li.toNat r.1, S.es, S.xs⟩ := by
  unfold upM
  rw [portAt_nat hl hj]
  dsimp only
  rw [hu]
  dsimp only
  rw [he]
  dsimp only
  rw [ha, if_pos rfl, Int.toNat_natCast]
theorem answerM_cons {m : Ms} {rest : List Ms} (hu : (atP S.ps j).an = m :: rest) {e : En} (he : S.en[m.li.toNat]? = some e) {r : En × List Sd} (ha : ansE e j m = (r, 0)) :
    (answerM c S j).1 = ⟨sendP (S.ps.set j { atP S.ps j with an := rest }) r.2, S.en.set m.li.toNat r.1, S.es, S.xs⟩ := by
  unfold answerM
  rw [portAt_nat hl hj]
  dsimp only
  rw [hu]
  dsimp only
  rw [he]
  dsimp only
  rw [ha, if_pos rfl, Int.toNat_natCast]
theorem hearM_cons {m : Ms} {rest : List Ms} (hu : (atP S.ps j).dn = m :: rest) (h0 : (hearF c.se c.wa (atP S.ps j).s m).2.2 = 0) :
    (hearM c S j).1 = ⟨S.ps.set j { atP S.ps j with s := (hearF c.se c.wa (atP S.ps j).s m).1, an := (atP S.ps j).an ++ (hearF c.se c.wa (atP S.ps j).s m).2.1, dn := rest }, S.en, S.es, S.xs⟩ := by
  unfold hearM
  rw [portAt_nat hl hj]
  dsimp only
  rw [hu]
  dsimp only
  rw [if_pos h0]
  unfold Mst.put
  rw [Int.toNat_natCast]
end
theorem drainM_eq {c : Cg} {S : Mst} {l : Nat} (hl : l < c.li) : (drainM c S l).1 = ⟨S.ps, S.en, drainEs S.es l, drainXs S.xs S.es l⟩ := by
  unfold drainM
  rw [if_pos (inB_iff.2 ⟨by omega, by omega⟩)]

theorem has_bitI (c : Int) (hc : isC c = true) (d : Int) : hasM (bitM c) d = decide (c = d) := by rw [has_bit, hc, Bool.true_and]

/-! ### A request's way -/
/-- What it leaves of its line's entry. -/
def Fin9 (k : Nat) (m : Ms) (e0 e : En) : Prop :=
  (m.kd = 1 → (e.ow = (k : Int) ∨ hasM e.sh k = true) ∧ (e0.ow = -1 → e.di = e0.di)) ∧ (m.kd = 2 → e.ow = (k : Int)) ∧ (m.kd = 3 → e0.he = true → e = (putE e0 k m).1) ∧ (m.kd = 4 ∨ m.kd = 5 → e.he = true ∧ e.ow = -1 ∧ e.di = false)
/-- Whose request it is, of which line, what the entries were. -/
structure Req (c : Cg) (k i : Nat) (m : Ms) (en0 : List En) (e0 : En) (Z : Prop) : Prop where
  hk : k < c.co
  hi : i < c.li
  hm : m.li = (i : Int)
  hb : ∀ e ∈ en0, e.bu = 0
  he : en0[i]? = some e0
  hz : m.kd = 4 ∨ m.kd = 5 → Z
/-- It was asked. -/
structure PA (c : Cg) (k i : Nat) (m : Ms) (en0 : List En) (sK : Sta) (Z : Prop) (S : Mst) : Prop where
  q : ∀ j, j < c.co → (atP S.ps j).up = (if j = k then [m] else []) ∧ (atP S.ps j).an = [] ∧ (atP S.ps j).dn = []
  en : S.en = en0
  sk : (atP S.ps k).s = sK
  es : Z → S.es = []
/-- Somebody has to answer. -/
structure PW (c : Cg) (k i : Nat) (m : Ms) (en0 : List En) (e0 : En) (Z : Prop) (e : En) (S : Mst) : Prop where
  up : ∀ j, j < c.co → (atP S.ps j).up = []
  q : ∀ j, j < c.co → (hasM e.wa j = false ∧ (atP S.ps j).an = [] ∧ (atP S.ps j).dn = []) ∨ (hasM e.wa j = true ∧ (atP S.ps j).an = [] ∧ ∃ a, (atP S.ps j).dn = [a] ∧ a.li = (i : Int)) ∨ (hasM e.wa j = true ∧ (atP S.ps j).dn = [] ∧ ∃ a, (atP S.ps j).an = [a] ∧ a.li = (i : Int))
  at' : S.en[i]? = some e
  oth : ∀ p, p ≠ i → S.en[p]? = en0[p]?
  bu : e.bu = m.kd
  kd : m.kd = 1 ∨ m.kd = 2 ∨ m.kd = 4 ∨ m.kd = 5
  by' : e.by_ = (k : Int)
  k1 : m.kd = 1 → e0.ow ≠ -1
  fl : m.kd = 4 ∨ m.kd = 5 → e.he = true ∧ (e.ow = -1 ∨ hasM e.wa e.ow = true)
  es : Z → S.es = []
/-- It is being told. -/
structure PD (c : Cg) (k i : Nat) (m : Ms) (en0 : List En) (e0 : En) (sK : Sta) (Z : Prop) (e : En) (S : Mst) : Prop where
  ex : ∃ a : Ms, (a.kd ≠ 12 ∧ a.kd ≠ 13) ∧ (m.kd = 3 → a.kd = 11 ∧ a.li = (i : Int)) ∧ ∀ j, j < c.co → (atP S.ps j).up = [] ∧ (atP S.ps j).an = [] ∧ (atP S.ps j).dn = if j = k then [a] else []
  at' : S.en[i]? = some e
  oth : ∀ p, p ≠ i → S.en[p]? = en0[p]?
  bu : e.bu = 0
  fin : Fin9 k m e0 e
  sk : m.kd = 3 → (atP S.ps k).s = sK
  es : Z → S.es = []
/-- It is done. -/
structure PQ (c : Cg) (k i : Nat) (m : Ms) (en0 : List En) (e0 : En) (sK : Sta) (Z : Prop) (e : En) (S : Mst) : Prop where
  q : Quiet c S
  at' : S.en[i]? = some e
  oth : ∀ p, p ≠ i → S.en[p]? = en0[p]?
  fin : Fin9 k m e0 e
  sk : m.kd = 3 → (atP S.ps k).s = dropS sK i
  es : Z → S.es = []
/-- All queues are short. -/
def Short (c : Cg) (S : Mst) : Prop := ∀ j, j < c.co → (atP S.ps j).up.length ≤ 1 ∧ (atP S.ps j).an.length ≤ 1 ∧ (atP S.ps j).dn.length ≤ 1

section
variable {c : Cg} {k i : Nat} {m : Ms} {en0 : List En} {e0 e : En} {sK : Sta} {Z : Prop} {S : Mst}
theorem PA.short (h : PA c k i m en0 sK Z S) : Short c S := by
  intro j hj
  obtain ⟨q1, q2, q3⟩ := h.q j hj
  rw [q1, q2, q3]
  refine ⟨?_, by simp, by simp⟩
  split <;> simp
theorem PW.short (h : PW c k i m en0 e0 Z e S) : Short c S := by
  intro j hj
  rw [h.up j hj]
  rcases h.q j hj with ⟨_, q1, q2⟩ | ⟨_, q1, a, q2, _⟩ | ⟨_, q1, a, q2, _⟩ <;> rw [q1, q2] <;> simp
theorem PD.short (h : PD c k i m en0 e0 sK Z e S) : Short c S := by
  intro j hj
  obtain ⟨a, _, _, hq⟩ := h.ex
  obtain ⟨q1, q2, q3⟩ := hq j hj
  rw [q1, q2, q3]
  refine ⟨by simp, by simp, ?_⟩
  split <;> simp
theorem Quiet.short (h : Quiet c S) : Short c S := by
  intro j hj
  obtain ⟨q1, q2, q3⟩ := h.q j hj
  rw [q1, q2, q3]
  simp
variable {n : Nat} {cur : Nat → List Int} (R : Req c k i m en0 e0 Z) (h : Inv c n S cur)
theorem PD.other (R : Req c k i m en0 e0 Z) (w : PD c k i m en0 e0 sK Z e S) : ∀ x ∈ S.en, x.bu = 0 := by
  intro x hx
  obtain ⟨p, hp⟩ := List.getElem?_of_mem hx
  by_cases hpi : p = i
  · subst hpi
    rw [w.at'] at hp
    injection hp with hp
    rw [← hp]; exact w.bu
  · rw [w.oth p hpi] at hp
    exact R.hb x (List.mem_of_getElem? hp)
/-- The answer goes to the one that asked. -/
theorem PD.make (hk : k < c.co) (h8 : c.co ≤ 8) (ps1 : List Pt) (en1 : List En) (es1 : List Ent) (xs1 : List Int) (hl : ps1.length = c.co) (hq : ∀ j, j < c.co → (atP ps1 j).up = [] ∧ (atP ps1 j).an = [] ∧ (atP ps1 j).dn = []) (a : Ms) (e' : En) (ha : a.kd ≠ 12 ∧ a.kd ≠ 13) (ha3 : m.kd = 3 → a.kd = 11 ∧ a.li = (i : Int))
    (hi : i < en1.length) (ho : ∀ p, p ≠ i → en1[p]? = en0[p]?) (hb : e'.bu = 0) (hf : Fin9 k m e0 e') (hsk : m.kd = 3 → (atP ps1 k).s = sK) (hes : Z → es1 = []) :
    PD c k i m en0 e0 sK Z e' ⟨sendP ps1 (tellL (bitM (k : Int)) a), en1.set i e', es1, xs1⟩ := by
  have hC : isC (k : Int) = true := isC_cast (by omega)
  obtain ⟨h1, h2⟩ := sendP_tell (bitM (k : Int)) a ps1 (fun j hj hh => by rw [has_bitN _ hC, decide_eq_true_eq] at hh; omega)
  have hat : ∀ j, j < c.co → atP (sendP ps1 (tellL (bitM (k : Int)) a)) j = if j = k then { atP ps1 j with dn := (atP ps1 j).dn ++ [a] } else atP ps1 j := by
    intro j hj
    rw [h2 j (by omega), has_bitN _ hC]
    by_cases hjk : j = k
    · subst hjk; simp
    · rw [if_neg (by simp; omega), if_neg hjk]
  refine ⟨⟨a, ha, ha3, fun j hj => ?_⟩, ?_, fun p hp => ?_, hb, hf, fun h3 => ?_, hes⟩
  · obtain ⟨q1, q2, q3⟩ := hq j hj
    show (atP (sendP ps1 (tellL (bitM (k : Int)) a)) j).up = [] ∧ (atP (sendP ps1 (tellL (bitM (k : Int)) a)) j).an = [] ∧ (atP (sendP ps1 (tellL (bitM (k : Int)) a)) j).dn = _
    rw [hat j hj]
    by_cases hjk : j = k
    · rw [if_pos hjk, if_pos hjk]
      exact ⟨q1, q2, by show (atP ps1 j).dn ++ [a] = _; rw [q3]; rfl⟩
    · rw [if_neg hjk, if_neg hjk]
      exact ⟨q1, q2, q3⟩
  · show (en1.set i e')[i]? = _
    rw [List.getElem?_set]; simp [hi]
  · show (en1.set i e')[p]? = _
    rw [List.getElem?_set_ne (fun e => hp e.symm)]
    exact ho p hp
  · show (atP (sendP ps1 (tellL (bitM (k : Int)) a)) k).s = sK
    rw [hat k hk, if_pos rfl]
    exact hsk h3
include R h
/-- A core hears what it asked for. -/
theorem PD.hear (w : PD c k i m en0 e0 sK Z e S) : PQ c k i m en0 e0 sK Z e (hearM c S k).1 := by
  have hk := R.hk
  obtain ⟨a, ha, ha3, hq⟩ := w.ex
  obtain ⟨q1, q2, q3⟩ := hq k hk
  rw [if_pos rfl] at q3
  obtain ⟨t1, t2, t3, t4, t5⟩ := h.hear hk (atP_mem (by rw [h.co]; exact hk)) q3
  have aj := (h.pt k hk).aj
  obtain ⟨m1, m2, m3⟩ := (h.pt k hk).fd a (by rw [q3]; simp)
  have hg : (mg a && tellsB a.kd) = true := by rw [m1, m2]; rfl
  have hv : (hearF c.se c.wa (atP S.ps k).s a).2.1 = [] := by
    rw [(aj.hearF hg m3 t1).2.1]
    show answersL _ _ _ = []
    unfold answersL
    rw [if_neg ha.1, if_neg ha.2]
  rw [hearM_cons h.co hk q3 t2, hv, q2]
  have hkl : k < S.ps.length := by rw [h.co]; exact hk
  have hoth := PD.other R w
  refine ⟨⟨fun j hj => ?_, fun x hx => hoth x hx⟩, w.at', w.oth, w.fin, fun h3 => ?_, w.es⟩
  · show (atP (S.ps.set k _) j).up = [] ∧ (atP (S.ps.set k _) j).an = [] ∧ (atP (S.ps.set k _) j).dn = []
    rw [atP_set hkl]
    split
    · exact ⟨q1, rfl, rfl⟩
    · rename_i hjk
      obtain ⟨p1, p2, p3⟩ := hq j hj
      rw [if_neg hjk] at p3
      exact ⟨p1, p2, p3⟩
  · show (atP (S.ps.set k _) k).s = _
    rw [atP_set hkl, if_pos rfl]
    obtain ⟨a1, a2⟩ := ha3 h3
    show (hearF c.se c.wa (atP S.ps k).s a).1 = _
    have ht : tb a.kd (findVal (atP S.ps k).s.1 a.li).st = 10 := by
      have h0 : tb a.kd (findVal (atP S.ps k).s.1 a.li).st ≠ 0 := t1
      rw [a1] at h0 ⊢
      unfold tb at h0 ⊢
      simp at h0 ⊢
      omega
    unfold hearF
    rw [if_pos hg, if_neg (by rw [ht]; decide), ht]
    unfold hearX
    rw [if_pos rfl, w.sk h3, a2]
/-- One that has to answer hears that. -/
theorem PW.hear (w : PW c k i m en0 e0 Z e S) {j : Nat} (hj : j < c.co) {a : Ms} (q3 : (atP S.ps j).dn = [a]) : PW c k i m en0 e0 Z e (hearM c S j).1 ∧ ∀ p, p < c.co → (atP (hearM c S j).1.ps p).dn = if p = j then [] else (atP S.ps p).dn := by
  have _R := R
  have hjl : j < S.ps.length := by rw [h.co]; exact hj
  have hwa : hasM e.wa j = true ∧ (atP S.ps j).an = [] := by
    rcases w.q j hj with ⟨_, _, q2⟩ | ⟨q1, q2, _⟩ | ⟨_, q2, _⟩
    · rw [q3] at q2; cases q2
    · exact ⟨q1, q2⟩
    · rw [q3] at q2; cases q2
  obtain ⟨t1, t2, t3, t4, t5⟩ := h.hear hj (atP_mem hjl) q3
  have hS := hearM_cons h.co hj q3 t2
  have t5' : Inv c (n + 1) (hearM c S j).1 cur := (h.hearM j).1
  rw [hS] at t5' ⊢
  rw [hwa.2] at t5' ⊢
  rw [List.nil_append] at t5' ⊢
  generalize hAV : (hearF c.se c.wa (atP S.ps j).s a).2.1 = av at t3 t5' ⊢
  generalize hSV : (hearF c.se c.wa (atP S.ps j).s a).1 = sv at t5' ⊢
  have hat : ∀ p, atP (S.ps.set j { atP S.ps j with s := sv, an := av, dn := [] }) p = if p = j then { atP S.ps j with s := sv, an := av, dn := [] } else atP S.ps p := fun p => atP_set hjl _ p
  have hav : ∃ b, av = [b] ∧ b.li = (i : Int) := by
    have hr := (t5'.ln i e w.at').rel j hj
    dsimp only at hr
    rw [hat, if_pos rfl, hwa.1] at hr
    have e1 : anL ({ atP S.ps j with s := sv, an := av, dn := [] } : Pt) i = av.filter (fun m => m.li == (i : Int)) := rfl
    have e2 : dnL ({ atP S.ps j with s := sv, an := av, dn := [] } : Pt) i = [] := rfl
    rw [e1, e2] at hr
    generalize hF : av.filter (fun m => m.li == (i : Int)) = F at hr
    generalize hDD : ([] : List Ms) = DD at hr
    generalize bOf e j = bb at hr
    cases hr with
    | told b hb => exact absurd hDD (by simp)
    | ack b hb =>
      have hbm : b ∈ av.filter (fun m => m.li == (i : Int)) := by rw [hF]; simp
      rw [List.mem_filter] at hbm
      match av, t3, hbm.1 with
      | [x], _, hx =>
        rw [List.mem_singleton] at hx
        subst hx
        exact ⟨b, rfl, by simpa using hbm.2⟩
  obtain ⟨b, rfl, hbl⟩ := hav
  refine ⟨⟨fun p hp => ?_, fun p hp => ?_, w.at', w.oth, w.bu, w.kd, w.by', w.k1, w.fl, w.es⟩, fun p hp => ?_⟩
  · show (atP (S.ps.set j _) p).up = []
    rw [hat]
    split
    · exact w.up j hj
    · exact w.up p hp
  · show (hasM e.wa p = false ∧ (atP (S.ps.set j _) p).an = [] ∧ (atP (S.ps.set j _) p).dn = []) ∨ (hasM e.wa p = true ∧ (atP (S.ps.set j _) p).an = [] ∧ ∃ a, (atP (S.ps.set j _) p).dn = [a] ∧ a.li = (i : Int)) ∨ (hasM e.wa p = true ∧ (atP (S.ps.set j _) p).dn = [] ∧ ∃ a, (atP (S.ps.set j _) p).an = [a] ∧ a.li = (i : Int))
    rw [hat]
    split
    · rename_i hpj
      subst hpj
      exact .inr (.inr ⟨hwa.1, rfl, b, rfl, hbl⟩)
    · exact w.q p hp
  · show (atP (S.ps.set j _) p).dn = _
    rw [hat]
    split <;> rfl
/-- An answer reaches the directory. -/
theorem PW.answer (w : PW c k i m en0 e0 Z e S) {j : Nat} (hj : j < c.co) {a : Ms} (q3 : (atP S.ps j).an = [a]) :
    (∃ e', PW c k i m en0 e0 Z e' (answerM c S j).1 ∧ (∀ p, hasM e'.wa p = (hasM e.wa p && !decide (p = (j : Int)))) ∧ ∀ p, p < c.co → (atP (answerM c S j).1.ps p).dn = (atP S.ps p).dn) ∨ ∃ e', PD c k i m en0 e0 sK Z e' (answerM c S j).1 := by
  have hk := R.hk
  have h8 := h.ok.co8
  have hjl : j < S.ps.length := by rw [h.co]; exact hj
  have hC : isC (j : Int) = true := isC_cast (by omega)
  have hwa : hasM e.wa j = true ∧ (atP S.ps j).dn = [] ∧ a.li = (i : Int) := by
    rcases w.q j hj with ⟨_, q2, _⟩ | ⟨_, q2, _⟩ | ⟨q1, q2, b, q4, q5⟩
    · rw [q3] at q2; cases q2
    · rw [q3] at q2; cases q2
    · rw [q3] at q4
      injection q4 with q4 _
      exact ⟨q1, q2, by rw [q4]; exact q5⟩
  obtain ⟨wj, qd, hai⟩ := hwa
  obtain ⟨i', e1, g1, g2, g3, o, a', e2, g4, _⟩ := h.answer hj (atP_mem hjl) q3
  have hii : i' = i := by omega
  subst hii
  rw [w.at'] at g3
  injection g3 with g3
  subst g3
  have hli : a.li.toNat = i' := by omega
  have good := (h.ln i' e w.at').good
  obtain ⟨f1, f2, f3⟩ := answered_good (m := a) good wj
  obtain ⟨a1, a2, a3, a4, a5, a6⟩ := answered_parts e (j : Int) a
  have hil : i' < S.en.length := by rw [h.li]; exact R.hi
  have hres : ansE e (j : Int) a = ((if (answeredE e (j : Int) a).wa ≠ 0#8 then (answeredE e (j : Int) a, []) else settledE (answeredE e (j : Int) a) a.li), 0) := by
    unfold ansE at g4 ⊢
    by_cases hc : ansArg e (j : Int) a = true
    · rw [if_pos hc, if_pos wj]
      split <;> rfl
    · rw [if_neg hc] at g4
      injection g4 with _ g4
      exact absurd g4 (by decide)
  have hS := answerM_cons h.co hj q3 (by rw [hli]; exact w.at') hres
  rw [hli] at hS
  rw [hS]
  have hat : ∀ p, atP (S.ps.set j { atP S.ps j with an := [] }) p = if p = j then { atP S.ps j with an := [] } else atP S.ps p := fun p => atP_set hjl _ p
  have hwa' : ∀ p : Int, hasM (answeredE e (j : Int) a).wa p = (hasM e.wa p && !decide (p = (j : Int))) := by
    intro p
    rw [a6, has_not, has_bitI _ hC]
    congr 2
    exact decide_eq_decide.2 ⟨fun h => h.symm, fun h => h.symm⟩
  have hstay : PW c k i' m en0 e0 Z (answeredE e (j : Int) a) ⟨S.ps.set j { atP S.ps j with an := [] }, S.en.set i' (answeredE e (j : Int) a), S.es, S.xs⟩ ∧ ∀ p, p < c.co → (atP (S.ps.set j { atP S.ps j with an := [] }) p).dn = (atP S.ps p).dn := by
    refine ⟨⟨fun p hp => ?_, fun p hp => ?_, ?_, fun p hp => ?_, a4.trans w.bu, w.kd, a5.trans w.by', w.k1, fun hf => ⟨a1.trans (w.fl hf).1, .inl f1⟩, w.es⟩, fun p hp => ?_⟩
    · show (atP (S.ps.set j _) p).up = []
      rw [hat]
      split
      · exact w.up j hj
      · exact w.up p hp
    · show (hasM _ p = false ∧ (atP (S.ps.set j _) p).an = [] ∧ (atP (S.ps.set j _) p).dn = []) ∨ (hasM _ p = true ∧ (atP (S.ps.set j _) p).an = [] ∧ ∃ a, (atP (S.ps.set j _) p).dn = [a] ∧ a.li = (i' : Int)) ∨ (hasM _ p = true ∧ (atP (S.ps.set j _) p).dn = [] ∧ ∃ a, (atP (S.ps.set j _) p).an = [a] ∧ a.li = (i' : Int))
      rw [hat, hwa']
      by_cases hpj : p = j
      · subst hpj
        rw [if_pos rfl]
        exact .inl ⟨by simp, rfl, qd⟩
      · rw [if_neg hpj]
        have : decide ((p : Int) = (j : Int)) = false := decide_eq_false (by omega)
        rw [this]
        simpa using w.q p hp
    · show (S.en.set i' _)[i']? = _
      rw [List.getElem?_set]; simp [hil]
    · show (S.en.set i' _)[p]? = _
      rw [List.getElem?_set_ne (fun e => hp e.symm)]
      exact w.oth p hp
    · rw [hat]
      split
      · rename_i hpj; subst hpj; rfl
      · rfl
  by_cases hw0 : (answeredE e (j : Int) a).wa ≠ 0#8
  · rw [if_pos hw0]
    exact .inl ⟨_, hstay.1, hwa', hstay.2⟩
  · rw [if_neg hw0]
    have hw0' : (answeredE e (j : Int) a).wa = 0#8 := by simpa using hw0
    have hby : (answeredE e (j : Int) a).by_ = (k : Int) := a5.trans w.by'
    have hbu : (answeredE e (j : Int) a).bu = m.kd := a4.trans w.bu
    have hq : ∀ p, p < c.co → (atP (S.ps.set j { atP S.ps j with an := [] }) p).up = [] ∧ (atP (S.ps.set j { atP S.ps j with an := [] }) p).an = [] ∧ (atP (S.ps.set j { atP S.ps j with an := [] }) p).dn = [] := by
      intro p hp
      rw [hat]
      by_cases hpj : p = j
      · rw [if_pos hpj]
        exact ⟨w.up j hj, rfl, qd⟩
      · rw [if_neg hpj]
        have h1 := hwa' p
        rw [hw0', has_zero, decide_eq_false (by omega)] at h1
        have h2 : hasM e.wa p = false := by simpa using h1.symm
        rcases w.q p hp with ⟨_, q1, q2⟩ | ⟨q1, _⟩ | ⟨q1, _⟩
        · exact ⟨w.up p hp, q1, q2⟩
        · rw [h2] at q1; cases q1
        · rw [h2] at q1; cases q1
    have hlen : (S.ps.set j { atP S.ps j with an := [] }).length = c.co := by rw [List.length_set]; exact h.co
    unfold settledE
    rw [hbu, hby]
    rcases w.kd with kd | kd | kd
    · rw [if_pos kd]
      right
      refine ⟨_, PD.make hk h8 _ _ _ _ hlen hq (ms5 8 a.li _ _) _ ⟨show (8 : Int) ≠ 12 by decide, show (8 : Int) ≠ 13 by decide⟩ (fun h3 => by omega) hil w.oth rfl ⟨fun _ => ⟨.inr ?_, fun h1 => absurd h1 (w.k1 kd)⟩, fun h => by omega, fun h => by omega, fun h => by omega⟩ (fun h3 => by omega) w.es⟩
      show hasM ((overE (answeredE e (j : Int) a)).sh ||| bitM (k : Int)) (k : Int) = true
      rw [has_or, has_self (isC_cast (by omega)), Bool.or_true]
    · rw [if_neg (by omega), if_pos kd]
      right
      exact ⟨_, PD.make hk h8 _ _ _ _ hlen hq (ms5 10 a.li _ _) _ ⟨show (10 : Int) ≠ 12 by decide, show (10 : Int) ≠ 13 by decide⟩ (fun h3 => by omega) hil w.oth rfl ⟨fun h => by omega, fun _ => rfl, fun h => by omega, fun h => by omega⟩ (fun h3 => by omega) w.es⟩
    · rw [if_neg (by omega), if_neg (by omega)]
      exact .inl ⟨_, hstay.1, hwa', hstay.2⟩
end
end Go.Proofs.YtcjoinhngdfdmaaGreatDoor
end
section
namespace Go.Proofs.YtcjoinhngdfdmaaGreatDoor
open Go.RowKit
set_option linter.unusedVariables false
set_option maxHeartbeats 1000000

section
variable {c : Cg} {k i : Nat} {m : Ms} {en0 : List En} {e0 e : En} {sK : Sta} {Z : Prop} {S : Mst}
/-- Somebody has to be told. -/
theorem PW.make (h8 : c.co ≤ 8) (ps1 : List Pt) (en1 : List En) (es1 : List Ent) (xs1 : List Int) (hl : ps1.length = c.co) (hq : ∀ j, j < c.co → (atP ps1 j).up = [] ∧ (atP ps1 j).an = [] ∧ (atP ps1 j).dn = []) (a : Ms) (e' : En) (ha : a.li = (i : Int))
    (hi : i < en1.length) (ho : ∀ p, p ≠ i → en1[p]? = en0[p]?) (hlo : ∀ j : Nat, j < 8 → hasM e'.wa j = true → j < c.co) (hb : e'.bu = m.kd) (hkd : m.kd = 1 ∨ m.kd = 2 ∨ m.kd = 4 ∨ m.kd = 5) (hby : e'.by_ = (k : Int)) (hk1 : m.kd = 1 → e0.ow ≠ -1) (hf : m.kd = 4 ∨ m.kd = 5 → e'.he = true ∧ (e'.ow = -1 ∨ hasM e'.wa e'.ow = true)) (hes : Z → es1 = []) :
    PW c k i m en0 e0 Z e' ⟨sendP ps1 (tellL e'.wa a), en1.set i e', es1, xs1⟩ := by
  obtain ⟨h1, h2⟩ := sendP_tell e'.wa a ps1 (fun j hj hh => by rw [hl]; exact hlo j hj hh)
  refine ⟨fun j hj => ?_, fun j hj => ?_, ?_, fun p hp => ?_, hb, hkd, hby, hk1, hf, hes⟩
  · show (atP (sendP ps1 (tellL e'.wa a)) j).up = []
    rw [h2 j (by omega)]
    split
    · exact (hq j hj).1
    · exact (hq j hj).1
  · show (hasM e'.wa j = false ∧ (atP (sendP ps1 (tellL e'.wa a)) j).an = [] ∧ (atP (sendP ps1 (tellL e'.wa a)) j).dn = []) ∨ (hasM e'.wa j = true ∧ (atP (sendP ps1 (tellL e'.wa a)) j).an = [] ∧ ∃ a', (atP (sendP ps1 (tellL e'.wa a)) j).dn = [a'] ∧ a'.li = (i : Int)) ∨ _
    rw [h2 j (by omega)]
    obtain ⟨q1, q2, q3⟩ := hq j hj
    by_cases hm : hasM e'.wa (j : Int) = true
    · rw [if_pos hm]
      exact .inr (.inl ⟨hm, q2, a, by show (atP ps1 j).dn ++ [a] = _; rw [q3]; rfl, ha⟩)
    · rw [if_neg hm]
      exact .inl ⟨by simpa using hm, q2, q3⟩
  · show (en1.set i e')[i]? = _
    rw [List.getElem?_set]; simp [hi]
  · show (en1.set i e')[p]? = _
    rw [List.getElem?_set_ne (fun e => hp e.symm)]
    exact ho p hp
theorem hereP_parts (e : En) (l : List Int) (h : l.length = 8) : (hereP e l h).ow = e.ow ∧ (hereP e l h).di = e.di ∧ (e.he = true → hereP e l h = e) := by
  unfold hereP
  split
  · exact ⟨rfl, rfl, fun _ => rfl⟩
  · rename_i hh
    exact ⟨rfl, rfl, fun h1 => absurd h1 hh⟩
variable {n : Nat} {cur : Nat → List Int} (R : Req c k i m en0 e0 Z) (h : Inv c n S cur)
include R h
/-- The request reaches the directory. -/
theorem PA.up (w : PA c k i m en0 sK Z S) : (∃ e', PW c k i m en0 e0 Z e' (upM c S k).1) ∨ ∃ e', PD c k i m en0 e0 sK Z e' (upM c S k).1 := by
  have hk := R.hk
  have h8 := h.ok.co8
  have hC : isC (k : Int) = true := isC_cast (by omega)
  have hkl : k < S.ps.length := by rw [h.co]; exact hk
  have hil : i < S.en.length := by rw [h.li]; exact R.hi
  obtain ⟨q1, q2, q3⟩ := w.q k hk
  rw [if_pos rfl] at q1
  obtain ⟨m1, m2, m3⟩ := (h.pt k hk).fu m (by rw [q1]; simp)
  obtain ⟨i', e1, g1, g2, g3, g4⟩ := h.up hk (atP_mem hkl) q1
  have hii : i' = i := by have := R.hm; omega
  subst hii
  have he0 : S.en[i']? = some e0 := by rw [w.en]; exact R.he
  rw [he0] at g3
  injection g3 with g3
  subst g3
  have hb0 : e0.bu = 0 := R.hb e0 (List.mem_of_getElem? R.he)
  rcases g4 with ⟨g4, _⟩ | ⟨_, o, a, e', g5, g6, g7, g8⟩
  · exact absurd hb0 g4
  have hln := h.ln i' e0 he0
  have hG := lnG_eq (h.ln8 R.hi)
  obtain ⟨l1, l2, l3⟩ := LI.here (X := lnG S.X i') (by rw [hG]; exact hln) (lnG_len _ _)
  obtain ⟨p1, p2, p3⟩ := hereP_parts e0 (lnG S.X i') (lnG_len _ _)
  have hli : m.li.toNat = i' := by omega
  have hlo := (g8.ln i' e' (by show (S.en.set i' e')[i']? = _; rw [List.getElem?_set]; simp [hil])).lo.2.2.2
  have hS := upM_cons h.co hk q1 (e := e0) (by rw [hli]; exact he0) (r := (e', tellL o a)) (by rw [hli]; exact g5)
  rw [hli] at hS
  rw [hS]
  generalize hereP e0 (lnG S.X i') (lnG_len _ _) = E at g5 l1 l2 l3 p1 p2 p3
  have harg : askArg E k m = true := by simp [askArg, l1.good, hC, m1, m2]
  have hb' : E.bu = 0 := l3.trans hb0
  unfold askE at g5
  rw [if_pos harg, if_neg (by rw [hb']; decide), if_neg (by rw [l2]; decide)] at g5
  injection g5 with g5 _
  obtain ⟨f1, f2, f3, _⟩ := l1.free l2 hb'
  have hat : ∀ p, atP (S.ps.set k { atP S.ps k with up := [] }) p = if p = k then { atP S.ps k with up := [] } else atP S.ps p := fun p => atP_set hkl _ p
  have hq : ∀ j, j < c.co → (atP (S.ps.set k { atP S.ps k with up := [] }) j).up = [] ∧ (atP (S.ps.set k { atP S.ps k with up := [] }) j).an = [] ∧ (atP (S.ps.set k { atP S.ps k with up := [] }) j).dn = [] := by
    intro j hj
    rw [hat]
    by_cases hjk : j = k
    · rw [if_pos hjk]; exact ⟨rfl, q2, q3⟩
    · rw [if_neg hjk]
      obtain ⟨r1, r2, r3⟩ := w.q j hj
      rw [if_neg hjk] at r1
      exact ⟨r1, r2, r3⟩
  have hlen : (S.ps.set k { atP S.ps k with up := [] }).length = c.co := by rw [List.length_set]; exact h.co
  have hoth : ∀ p, p ≠ i' → S.en[p]? = en0[p]? := fun p _ => by rw [w.en]
  have hsk : (atP (S.ps.set k { atP S.ps k with up := [] }) k).s = sK := by rw [hat, if_pos rfl]; exact w.sk
  have hkk : m.kd = 1 ∨ m.kd = 2 ∨ m.kd = 3 ∨ m.kd = 4 ∨ m.kd = 5 := by simp [asksB] at m2; omega
  have hown : E.ow = -1 ∨ hasM (bitM E.ow) E.ow = true := by
    rcases f1 with h1 | ⟨h1, _⟩
    · exact .inl h1
    · exact .inr (has_self h1)
  have mw : ∀ (o' : Mk) (kt : Int), deedE E k m = waitE E k m o' kt → m.kd ≠ 3 → (m.kd = 1 → e0.ow ≠ -1) → (m.kd = 4 ∨ m.kd = 5 → E.ow = -1 ∨ hasM o' E.ow = true) → PW c k i' m en0 e0 Z e' ⟨sendP (S.ps.set k { atP S.ps k with up := [] }) (tellL o a), S.en.set i' e', S.es, S.xs⟩ := by
    intro o' kt hd h3 hk1 hf
    rw [hd] at g5
    have e1 : e' = (waitE E k m o' kt).1 := by rw [g5]
    have e2 : tellL o a = tellL o' (ms4 kt m.li false false) := by
      have : tellL o a = (waitE E k m o' kt).2 := by rw [g5]
      exact this
    have hwa : e'.wa = o' := by rw [e1]; rfl
    rw [e2, ← hwa]
    refine PW.make h8 _ _ _ _ hlen hq _ e' R.hm hil hoth hlo (by rw [e1]; rfl) (by omega) (by rw [e1]; rfl) hk1 (fun h45 => ?_) w.es
    rw [hwa, e1]
    exact ⟨l2, hf h45⟩
  have md : ∀ (a' : Ms) (x : En), deedE E k m = (x, tellL (bitM (k : Int)) a') → (a'.kd ≠ 12 ∧ a'.kd ≠ 13) → (m.kd = 3 → a'.kd = 11 ∧ a'.li = (i' : Int)) → x.bu = 0 → Fin9 k m e0 x → PD c k i' m en0 e0 sK Z e' ⟨sendP (S.ps.set k { atP S.ps k with up := [] }) (tellL o a), S.en.set i' e', S.es, S.xs⟩ := by
    intro a' x hd ha ha3 hxb hf
    rw [hd] at g5
    injection g5 with e1 e2
    rw [← e2, ← e1]
    exact PD.make hk h8 _ _ _ _ hlen hq a' x ha ha3 hil hoth hxb hf (fun _ => hsk) w.es
  rcases hkk with kd | kd | kd | kd | kd
  · have hd : deedE E k m = getSE E k m := by simp [deedE, kd]
    unfold getSE at hd
    by_cases hc : E.ow ≠ -1 ∧ E.ow ≠ (k : Int)
    · rw [if_pos hc] at hd
      exact .inl ⟨_, mw _ _ hd (by omega) (fun _ => by rw [← p1]; exact hc.1) (fun h => by omega)⟩
    · rw [if_neg hc] at hd
      by_cases hs : E.sh = 0#8
      · rw [if_pos hs] at hd
        exact .inr ⟨_, md (ms5 9 m.li E.l E.h) _ hd ⟨show (9 : Int) ≠ 12 by decide, show (9 : Int) ≠ 13 by decide⟩ (fun h => by omega) hb' ⟨fun _ => ⟨.inl rfl, fun _ => p2⟩, fun h => by omega, fun h => by omega, fun h => by omega⟩⟩
      · rw [if_neg hs] at hd
        refine .inr ⟨_, md (ms5 8 m.li E.l E.h) _ hd ⟨show (8 : Int) ≠ 12 by decide, show (8 : Int) ≠ 13 by decide⟩ (fun h => by omega) hb' ⟨fun _ => ⟨.inr ?_, fun _ => p2⟩, fun h => by omega, fun h => by omega, fun h => by omega⟩⟩
        show hasM (E.sh ||| bitM (k : Int)) (k : Int) = true
        rw [has_or, has_self hC, Bool.or_true]
  · have hd : deedE E k m = getME E k m := by simp [deedE, kd]
    unfold getME at hd
    by_cases hc : (holders E &&& ~~~(bitM (k : Int))) = 0#8
    · rw [if_pos hc] at hd
      exact .inr ⟨_, md (ms5 10 m.li E.l E.h) _ hd ⟨show (10 : Int) ≠ 12 by decide, show (10 : Int) ≠ 13 by decide⟩ (fun h => by omega) hb' ⟨fun h => by omega, fun _ => rfl, fun h => by omega, fun h => by omega⟩⟩
    · rw [if_neg hc] at hd
      exact .inl ⟨_, mw _ _ hd (by omega) (fun h => by omega) (fun h => by omega)⟩
  · have hd : deedE E k m = putE E k m := by simp [deedE, kd]
    refine .inr ⟨_, md (ms4 11 m.li false false) (putE E k m).1 hd ⟨show (11 : Int) ≠ 12 by decide, show (11 : Int) ≠ 13 by decide⟩ (fun _ => ⟨rfl, R.hm⟩) ?_ ⟨fun h => by omega, fun h => by omega, fun _ hh => by rw [p3 hh], fun h => by omega⟩⟩
    unfold putE withoutE writtenE
    dsimp only
    repeat' split
    all_goals exact hb'
  · have hd : deedE E k m = cleanE E k m := by simp [deedE, kd]
    exact .inl ⟨_, mw _ _ hd (by omega) (fun h => by omega) (fun _ => hown)⟩
  · have hd : deedE E k m = wipeE E k m := by simp [deedE, kd]
    refine .inl ⟨_, mw _ _ hd (by omega) (fun h => by omega) (fun _ => ?_)⟩
    rcases hown with h1 | h1
    · exact .inl h1
    · right
      unfold holders
      rw [has_or, h1, Bool.or_true]
/-- All have answered: it goes to the memory. -/
theorem PW.push (w : PW c k i m en0 e0 Z e S) (hw : e.wa = 0#8) : Short c (pushM c S i).1 ∧ ∃ e', PD c k i m en0 e0 sK Z e' (drainM c (pushM c S i).1 i).1 := by
  have hk := R.hk
  have h8 := h.ok.co8
  have hC : isC (k : Int) = true := isC_cast (by omega)
  have hil : i < S.en.length := by rw [h.li]; exact R.hi
  have good := (h.ln i e w.at').good
  have hkd : m.kd = 4 ∨ m.kd = 5 := by
    by_cases h45 : m.kd = 4 ∨ m.kd = 5
    · exact h45
    · exfalso
      have h12 : e.bu = 1 ∨ e.bu = 2 := by rw [w.bu]; have := w.kd; omega
      have hh : e.he = true := by
        cases hh : e.he
        · unfold goodE at good
          rw [if_neg (by simp [hh])] at good
          have : e = enE := by simpa using good
          rw [this] at h12
          rcases h12 with h1 | h1 <;> exact absurd h1 (by decide)
        · rfl
      rcases ((good_here hh).1 good).2 with ⟨h1, _⟩ | ⟨_, _, h1⟩ | ⟨h1, _⟩
      · omega
      · exact h1 hw
      · omega
  obtain ⟨hh, how⟩ := w.fl hkd
  have how' : e.ow = -1 := by
    rcases how with h1 | h1
    · exact h1
    · rw [hw, has_zero] at h1; cases h1
  have hes := w.es (R.hz hkd)
  have hr : readyE e = true := by
    unfold readyE
    rw [good, hw, w.bu]
    rcases hkd with h1 | h1 <;> rw [h1] <;> rfl
  have hv : saveV c S.es i e = 0 := by
    unfold saveV wpushVal
    rw [hes]
    split
    · rw [if_pos (by have := R.hi; omega), if_neg (by have := h.ok.qu1; simp; omega)]
    · rfl
  have hS : (pushM c S i).1 = ⟨sendP S.ps (tellL (bitM (k : Int)) (ms4 14 i false false)), S.en.set i ((overE e).setDi false), saveEs c S.es i e, S.xs⟩ := by
    unfold pushM
    rw [if_pos (inB_iff.2 ⟨by omega, by have := R.hi; omega⟩), Int.toNat_natCast, w.at']
    dsimp only
    rw [if_pos hr, if_pos hv, w.by']
  have hq : ∀ j, j < c.co → (atP S.ps j).up = [] ∧ (atP S.ps j).an = [] ∧ (atP S.ps j).dn = [] := by
    intro j hj
    rcases w.q j hj with ⟨_, q1, q2⟩ | ⟨q1, _⟩ | ⟨q1, _⟩
    · exact ⟨w.up j hj, q1, q2⟩
    · rw [hw, has_zero] at q1; cases q1
    · rw [hw, has_zero] at q1; cases q1
  have hpd : ∀ es1 xs1, (Z → es1 = []) → PD c k i m en0 e0 sK Z ((overE e).setDi false) ⟨sendP S.ps (tellL (bitM (k : Int)) (ms4 14 i false false)), S.en.set i ((overE e).setDi false), es1, xs1⟩ := by
    intro es1 xs1 hz
    refine PD.make hk h8 _ _ _ _ h.co hq (ms4 14 i false false) _ ⟨show (14 : Int) ≠ 12 by decide, show (14 : Int) ≠ 13 by decide⟩ (fun h3 => by omega) hil w.oth rfl ⟨fun h => by omega, fun h => by omega, fun h => by omega, fun _ => ⟨hh, how', rfl⟩⟩ (fun h => by omega) hz
  rw [hS]
  refine ⟨?_, ?_⟩
  · have h1 : Short c ⟨sendP S.ps (tellL (bitM (k : Int)) (ms4 14 i false false)), S.en.set i ((overE e).setDi false), [], S.xs⟩ := (hpd [] S.xs (fun _ => rfl)).short
    exact h1
  · rw [drainM_eq R.hi]
    refine ⟨_, hpd _ _ (fun _ => ?_)⟩
    show drainEs (saveEs c S.es i e) i = []
    unfold saveEs pushEs
    rw [hes]
    split
    · rw [if_pos (by have := R.hi; omega), if_neg (by have := h.ok.qu1; simp; omega), Int.toNat_natCast]
      simp [drainEs, firstAt]
    · rfl
end
end Go.Proofs.YtcjoinhngdfdmaaGreatDoor
end
section
namespace Go.Proofs.YtcjoinhngdfdmaaGreatDoor
open Go.RowKit
set_option linter.unusedVariables false
set_option maxHeartbeats 1000000

def Roomy (c : Cg) (S : Mst) : Prop := ∀ j, j < c.co → (atP S.ps j).up.length ≤ 980 ∧ (atP S.ps j).an.length ≤ 980 ∧ (atP S.ps j).dn.length ≤ 980
theorem Roomy.of {c : Cg} {n : Nat} {S : Mst} {cur : Nat → List Int} (h : Inv c n S cur) (hn : n ≤ 980) : Roomy c S := by
  intro j hj
  have := h.pt j hj
  have h1 := this.up
  have h2 := this.an
  have h3 := this.dn
  omega
section
variable {W w : World} {c : Cg} {sy n : Nat} {F : List Nat} {S : Mst} {cur : Nat → List Int} (hm : MS W w c sy F S) (hI : Inv c n S cur)
include hm
theorem MS.sameU {w' : World} (hc : Chg [] w w') : MTS W w c sy F S w' := Mem.stay hm hc
include hI
theorem uload (hn : n ≤ 1000000000) (hQ : Roomy c S) (hT : Tab W) (k li wd : Int) :
    Calls Tryz.prog 138 #[.pointer (some ⟨sy, 0, none⟩), .int .i64 k, .int .i64 li, .int .i64 wd] w fun e w' => e = .returned (.tuple #[.int .u64 (loadM c S k li wd).2.v, .bool (loadM c S k li wd).2.hit]) ∧ MTS W w c sy F (loadM c S k li wd).1 w' := by
  unfold loadM
  cases hp : portAt c S k with
  | none => exact (mload_no hm k li wd (hI.portNone hp)).mono fun e w' h => ⟨h.1, MS.sameU hm (h.2 ▸ Chg.refl [] w)⟩
  | some x =>
    obtain ⟨j, rfl, hj, hx, hat, hP, _⟩ := hI.port hp
    have hQj := hQ j hj
    rw [hat] at hQj
    have hus : x.s.2 ≤ 1000000000 := by have := hP.us; omega
    have hq : x.up.length < 1000 := by have := hQj.1; omega
    have h64 := hI.ok.li64
    dsimp only
    by_cases hl : inB li c.li = true
    · rw [if_pos hl]
      obtain ⟨_, b, _⟩ := hP.aj.loadF (inB_iff.1 hl).2 wd
      exact mload_ok hm j li wd x hx hT hl hus hq (b.msgs h64).2 (b.msgs h64).1
    · rw [if_neg hl]
      exact (mload_off hm j li wd hj (by simpa using hl)).mono fun e w' h => ⟨h.1, MS.sameU hm (h.2 ▸ Chg.refl [] w)⟩
theorem ustore (hn : n ≤ 1000000000) (hQ : Roomy c S) (hT : Tab W) (k li wd v : Int) :
    Calls Tryz.prog 88 #[.pointer (some ⟨sy, 0, none⟩), .int .i64 k, .int .i64 li, .int .i64 wd, .int .u64 v] w fun e w' => e = .returned (.bool (storeM c S k li wd v).2.hit) ∧ MTS W w c sy F (storeM c S k li wd v).1 w' := by
  unfold storeM
  cases hp : portAt c S k with
  | none => exact (mstore_no hm k li wd v (hI.portNone hp)).mono fun e w' h => ⟨h.1, MS.sameU hm (h.2 ▸ Chg.refl [] w)⟩
  | some x =>
    obtain ⟨j, rfl, hj, hx, hat, hP, _⟩ := hI.port hp
    have hQj := hQ j hj
    rw [hat] at hQj
    have hus : x.s.2 ≤ 1000000000 := by have := hP.us; omega
    have hq : x.up.length < 1000 := by have := hQj.1; omega
    have h64 := hI.ok.li64
    dsimp only
    by_cases hl : inB li c.li = true
    · rw [if_pos hl]
      have hms : (storeF c.se c.wa x.s li wd v).2.2.length ≤ 1 ∧ ∀ m ∈ (storeF c.se c.wa x.s li wd v).2.2, mg m = true := by
        obtain ⟨_, ⟨_, _, _, _, b4, _, _⟩ | ⟨_, b2⟩⟩ := hP.aj.storeF (inB_iff.1 hl).2 wd v
        · rw [b4]; exact ⟨Nat.zero_le _, fun m hm => by cases hm⟩
        · exact b2.msgs h64
      exact mstore_ok hm j li wd v x hx hT hl hus hq hms.2 hms.1
    · rw [if_neg hl]
      exact (mstore_off hm j li wd v hj (by simpa using hl)).mono fun e w' h => ⟨h.1, MS.sameU hm (h.2 ▸ Chg.refl [] w)⟩
theorem ureach (hn : n ≤ 1000000000) (hQ : Roomy c S) (hT : Tab W) (k li : Int) :
    Calls Tryz.prog 140 #[.pointer (some ⟨sy, 0, none⟩), .int .i64 k, .int .i64 li] w fun e w' => e = .returned (.bool (reachM c S k li).2.hit) ∧ MTS W w c sy F (reachM c S k li).1 w' := by
  unfold reachM
  cases hp : portAt c S k with
  | none => exact (mreach_no hm k li (hI.portNone hp)).mono fun e w' h => ⟨h.1, MS.sameU hm (h.2 ▸ Chg.refl [] w)⟩
  | some x =>
    obtain ⟨j, rfl, hj, hx, hat, hP, _⟩ := hI.port hp
    have hQj := hQ j hj
    rw [hat] at hQj
    have hus : x.s.2 ≤ 1000000000 := by have := hP.us; omega
    have hq : x.up.length < 1000 := by have := hQj.1; omega
    have h64 := hI.ok.li64
    dsimp only
    by_cases hl : inB li c.li = true
    · rw [if_pos hl]
      by_cases ho : ownsB x.s.1 li = true
      · rw [if_pos ho]
        exact (mreach_own hm j li x hx hl ho).mono fun e w' h => ⟨h.1, MS.sameU hm h.2⟩
      · rw [if_neg ho]
        obtain ⟨_, b⟩ := hP.aj.reachF (inB_iff.1 hl).2
        exact mreach_ok hm j li x hx hT hl (by simpa using ho) hus hq (b.msgs h64).2 (b.msgs h64).1
    · rw [if_neg hl]
      exact (mreach_off hm j li hj (by simpa using hl)).mono fun e w' h => ⟨h.1, MS.sameU hm (h.2 ▸ Chg.refl [] w)⟩
end
end Go.Proofs.YtcjoinhngdfdmaaGreatDoor
end
