/- Texts of the walk, one behind the other: Mgb Mgc Mez. No condition. -/
import Derived.Test.YtadeoflkppiflaaGreatDoorPaa
import Derived.Test.YtadeoflkppiflaaGreatDoorPal
import Derived.BigQuiet
import Derived.Deep.Cut
import Derived.Deep.CutBlock
import Derived.Deep.CutRange
import Derived.Deep.DeepCutAuto
import Derived.Deep.QuietTactic
import Derived.Deep.RegionHeld3
import Derived.Deep.RegionWith
import Derived.LaidMore
import Derived.SevenTiedAt
import Derived.Test.YtadeoflkppiflaaGreatDoorCards
import Derived.Test.YtadeoflkppiflaaGreatDoorTie
section
namespace Go.Proofs.YtadeoflkppiflaaGreatDoor
open Go.RowKit
set_option linter.unusedVariables false
set_option maxHeartbeats 1000000
set_option maxRecDepth 100000
attribute [local go_sem ↓] append_appS copy_copS clear_clrS make_mkS cell_row frozen_row loadLine storeLine loadSlot storeSlot heap_drew heap_drewN heap_alloc heap_past heap_setCell heap_putRow vs_get slc_st slc_li slc_us slice_slS loadMsg storeMsg loadHas storeHas msc_kd msc_li msc_di msc_ke
attribute [local go_sem] rowCell_some rowFrozen_some rowHas_some rowIn_some rowPart_full rowPart_lit rowPut_full rowPut_lit rowSet_some size_putRow vs_size vs_one wideLine wideSlot run_loadS run_storeS run_appS run_copS run_clrS run_mkS loadW_at storeW_at fit_all fit_le one_int one_bool one_pointer one_slice allOne_list putRow_new ne_size1 ne_size2 ne_size3 ne_size4 zero8_length lines_nil line_eq lit8 slc_size slc_one slc_part slc_in fold_slt fold_slc slc_set_us wideMsg wideHas run_slS msc_size msc_one msc_part msc_in fold_msc msc_putDi msc_putKe msc_putX msc_has ms4_lit
attribute [local simp ↓] heap_drew heap_drewN heap_alloc heap_past heap_setCell heap_putRow
attribute [local simp] rowCell_some rowFrozen_some rowHas_some rowIn_some rowPart_full rowPart_lit rowPut_full rowPut_lit rowSet_some size_putRow vs_size fit_all putRow_new ne_size1 ne_size2 ne_size3 ne_size4 zero8_length slc_size msc_size msc_putDi msc_putKe msc_putX msc_has fit_le
attribute [local go_sem ↓] ec_he ec_di ec_ow ec_sh ec_bu ec_by ec_wa sc_to
attribute [local go_sem] mi_and mi_or mi_not mi_beq0 mi_bne0 ec_size ec_one ec_part ec_in ec_has ec_setDi ec_setOw ec_setSh ec_setBu ec_setBy ec_setWa ec_setSh0 ec_setWa0 ec_putM sc_size sc_one sc_part sc_in
attribute [local simp] ec_size sc_size ec_setDi ec_setOw ec_setSh ec_setBu ec_setBy ec_setWa ec_setSh0 ec_setWa0 ec_putM
attribute [local go_sem ↓] loadEn storeEn loadSd storeSd en_z0
attribute [local go_sem] wideEn wideSd fold_sc size11 putRow_newB putRow_newC ms5_lit
attribute [local simp] en_z0 putRow_newB putRow_newC fit_le ec_has



attribute [local go_sem ↓] mlitZ zenc_po zenc_en zenc_q
attribute [local simp] mlitZ

attribute [local go_sem ↓] loadCg cg_li cg_vo cg_qu
attribute [local go_sem] wideCg cg_size cg_one cg_part
section
variable {W w : World} {c : Cg} {sy : Nat} {F : List Nat} {ps : List Pt} {en : List En} {es : List Ent} {xs : List Int} (hm : Mem W w c sy F ps en es xs)
include hm
theorem mup_yes (i k : Nat) (x : Pt) (hy : ps[i]? = some x) (m : Ms) (rest : List Ms) (e e' : En) (l : List Int) (hl : l.length = 8) (ds : List Sd) (hT : Tab W) (hx : x.up = m :: rest) (hlu : x.up.length ≤ 1000) (hk : m.li = (k : Int)) (he : en[k]? = some e) (hX : ln (over xs es) k = l)
    (hr : askE (hereE e l hl) i m = ((e', ds), 0)) (hto : ∀ d ∈ ds, 0 ≤ d.to ∧ d.to < c.co ∧ mg d.m = true) (M : Nat) (hM : ∀ x ∈ ps, x.dn.length ≤ M) (hMn : M + ds.length ≤ 1000) :
    Calls Tryz.prog 35 #[.pointer (some ⟨sy, 0, none⟩), .int .i64 i] w fun r w' => r = .returned (.int .i64 0) ∧ MemTo W w c sy F (sendP (ps.set i { x with up := rest }) ds) (en.set k e') es xs w' :=
  (mup_go hm i k x hy m rest e e' l hl ds 0 hT hx hlu hk he hX hr hto M hM hMn).mono fun r w' h => h.elim (fun h => absurd rfl h.1) (fun h => h.2)
theorem manswer_yes (i k : Nat) (x : Pt) (hy : ps[i]? = some x) (m : Ms) (rest : List Ms) (e e' : En) (ds : List Sd) (hT : Tab W) (hx : x.an = m :: rest) (hlu : x.an.length ≤ 1000) (hk : m.li = (k : Int)) (he : en[k]? = some e)
    (hr : ansE e i m = ((e', ds), 0)) (hto : ∀ d ∈ ds, 0 ≤ d.to ∧ d.to < c.co ∧ mg d.m = true) (M : Nat) (hM : ∀ x ∈ ps, x.dn.length ≤ M) (hMn : M + ds.length ≤ 1000) :
    Calls Tryz.prog 37 #[.pointer (some ⟨sy, 0, none⟩), .int .i64 i] w fun r w' => r = .returned (.int .i64 0) ∧ MemTo W w c sy F (sendP (ps.set i { x with an := rest }) ds) (en.set k e') es xs w' :=
  (manswer_go hm i k x hy m rest e e' ds 0 hT hx hlu hk he hr hto M hM hMn).mono fun r w' h => h.elim (fun h => absurd rfl h.1) (fun h => h.2)
theorem mhear_yes (i : Nat) (x : Pt) (hy : ps[i]? = some x) (m : Ms) (rest : List Ms) (s' : Sta) (av : List Ms) (hT : Tabs W) (hx : x.dn = m :: rest) (hlu : x.dn.length ≤ 1000) (hu : x.s.2 ≤ 1000000000) (hr : hearF c.se c.wa x.s m = (s', (av, 0))) (ha1 : av.length ≤ 1) (hla : x.an.length < 1000) (hma : ∀ a ∈ av, mg a = true) :
    Calls Tryz.prog 36 #[.pointer (some ⟨sy, 0, none⟩), .int .i64 i] w fun r w' => r = .returned (.tuple #[.agg (msc m), .int .i64 0]) ∧ MemTo W w c sy F (ps.set i { x with s := s', an := x.an ++ av, dn := rest }) en es xs w' :=
  (mhear_go hm i x hy m rest s' av 0 hT hx hlu hu hr ha1 hla hma).mono fun r w' h => h.elim (fun h => absurd rfl h.1) (fun h => h.2)
end
/-! ### The states of what is waked -/
def kc : Cg := ⟨2, 6, 1, 1, 2, 2, 2⟩
theorem kc_ok : kc.Ok := ⟨by decide, by decide, by decide, by decide, by decide, by decide, by decide, by decide, by decide, by decide, by decide⟩
def kx : List Int := List.replicate (kc.li * 8) 0
def ka1 : Sta := ([⟨5, 3, [0, 0, 0, 0, 0, 0, 0, 0], 1, rfl⟩, sltZ], 1)
def ka2 : Sta := ([⟨2, 3, [0, 0, 0, 0, 0, 0, 0, 0], 2, rfl⟩, sltZ], 2)
def ka3 : Sta := ([⟨3, 3, [0, 7, 0, 0, 0, 0, 0, 0], 3, rfl⟩, sltZ], 3)
def ka4 : Sta := ([⟨1, 3, [0, 7, 0, 0, 0, 0, 0, 0], 4, rfl⟩, sltZ], 4)
def kb1 : Sta := ([⟨4, 3, [0, 0, 0, 0, 0, 0, 0, 0], 1, rfl⟩, sltZ], 1)
def kb2 : Sta := ([⟨1, 3, [0, 7, 0, 0, 0, 0, 0, 0], 2, rfl⟩, sltZ], 2)
def kb3 : Sta := ([⟨1, 3, [0, 7, 0, 0, 0, 0, 0, 0], 3, rfl⟩, sltZ], 3)
def kM : Ms := ms4 2 3 false false
def kS : Ms := ms4 1 3 false false
def kDM : Ms := ms5 10 3 [0, 0, 0, 0, 0, 0, 0, 0] rfl
def kDn : Ms := ms4 13 3 false false
def kAk : Ms := ⟨7, 3, true, true, [0, 7, 0, 0, 0, 0, 0, 0], rfl⟩
def kDS : Ms := ms5 8 3 [0, 7, 0, 0, 0, 0, 0, 0] rfl
def ke1 : En := ⟨true, false, [0, 0, 0, 0, 0, 0, 0, 0], 0, 0#8, 0, 0, 0#8, rfl⟩
def ke2 : En := ⟨true, false, [0, 0, 0, 0, 0, 0, 0, 0], 0, 0#8, 1, 1, 1#8, rfl⟩
def ke3 : En := ⟨true, true, [0, 7, 0, 0, 0, 0, 0, 0], -1, 3#8, 0, 0, 0#8, rfl⟩
theorem kv1 : storeF kc.se kc.wa (pt0 kc).s 3 1 7 = (ka1, (false, [kM])) := by rfl
theorem kv2 : askE (hereE enE [0, 0, 0, 0, 0, 0, 0, 0] rfl) 0 kM = ((ke1, [⟨0, kDM⟩]), 0) := by rfl
theorem kv3 : hearF kc.se kc.wa ka1 kDM = (ka2, ([], 0)) := by rfl
theorem kv4 : storeF kc.se kc.wa ka2 3 1 7 = (ka3, (true, [])) := by rfl
theorem kv5 : loadF kc.se kc.wa (pt0 kc).s 3 1 = (kb1, (0, false, [kS])) := by rfl
theorem kv6 : askE (hereE ke1 [0, 0, 0, 0, 0, 0, 0, 0] rfl) 1 kS = ((ke2, [⟨0, kDn⟩]), 0) := by rfl
theorem kv7 : hearF kc.se kc.wa ka3 kDn = (ka4, ([kAk], 0)) := by rfl
theorem kv8 : ansE ke2 0 kAk = ((ke3, [⟨1, kDS⟩]), 0) := by rfl
theorem kv9 : hearF kc.se kc.wa kb1 kDS = (kb2, ([], 0)) := by rfl
theorem kv10 : loadF kc.se kc.wa kb2 3 1 = (kb3, (7, true, [])) := by rfl

theorem results_cg {fn : Func} {p : Tmp} (h : fn.results = #[.cell p 23]) (tmps : Array Value) (w : World) (b : Nat) (x : Cg) (fr : Nat × Nat)
    (hp : tmps.getD p undef = .pointer (some ⟨b, 0, none⟩)) (hb : w.heap[b]? = some (.cells x.cells 23 fr)) : (results fn tmps).run Tryz.prog w = .ok (.agg x.cells) w := by
  have hp' : tmps[p]?.getD undef = .pointer (some ⟨b, 0, none⟩) := by simpa using hp
  have := run_loadVar_row (P := Tryz.prog) w b 23 23 x.cells fr _ hb Tryz.underlying23 rfl (by rw [cg_size]; kernel_rfl)
  simp [results, h, hp', asAddr, this]
def cgZ : Cg := ⟨0, 0, 0, 0, 0, 0, 0⟩
theorem cgZ_lit : (#[.int .i64 0, .int .i64 0, .int .i64 0, .int .i64 0, .int .i64 0, .int .i64 0, .int .i64 0] : Array Value) = cgZ.cells := rfl
theorem kc_lit : (#[.int .i64 2, .int .i64 6, .int .i64 1, .int .i64 1, .int .i64 2, .int .i64 2, .int .i64 2] : Array Value) = kc.cells := rfl
theorem storeCg (x y : Value) : Instr.storeAt 23 x y = storeS 23 7 x y := rfl
attribute [local go_sem ↓] storeCg
theorem kplain (w : World) : Calls Tryz.prog 33 #[] w fun e w' => e = .returned (.agg kc.cells) ∧ Chg [] w w' := by
  go_enter Tryz.func33, Tryz.ntmps33
  try dsimp only [List.append]
  go_wp2_with fail
  refine bodyPost_ret (v := .agg kc.cells) ?_ (by rfl) ?_
  · exact results_cg (by rfl) _ _ w.heap.size kc (0, 0) (by rfl) (by rw [← kc_lit]; simp)
  · exact ⟨rfl, by (repeat' (first | with_reducible exact Chg.refl _ _ | with_reducible assumption | with_reducible refine Chg.drew ?_ | with_reducible refine Chg.drewN ?_ _ | with_reducible refine Chg.alloc ?_ _ | with_reducible refine Chg.putRow ?_ _ _ _ (.inr ?_) | with_reducible refine Chg.setCell ?_ _ _ _ (.inr ?_)  | (show _ ≤ _; first | exact Nat.le_refl _ | omega | (simp; done))))⟩
theorem enc_part (z : Lay) (c : Cg) (t : TypeId) (f : Nat × Nat) : rowPart (some (.cells (z.enc c).toArray t f)) 0 7 = c.cells := by
  rw [rowPart_some]; rfl
theorem enc_in (z : Lay) (c : Cg) (t : TypeId) (f : Nat × Nat) : rowIn (some (.cells (z.enc c).toArray t f)) 0 7 = true := by
  rw [rowIn_some]
  exact decide_eq_true (show 0 + 7 ≤ (z.enc c).toArray.size by simp [Lay.enc, Cg.enc])
theorem zconfig_ok {W w : World} {c : Cg} {z : Lay} {L : List (Po × Pt)} {en : List En} {es : List Ent} {xs : List Int} (h : Msd W w c z L en es xs) : Calls Tryz.prog 25 #[.pointer (some ⟨z.sy, 0, none⟩)] w fun e w' => e = .returned (.agg c.cells) ∧ Chg [] w w' := by
  have rS := h.sys
  have oS := old rS
  have p0 := fun t f => enc_part z c t f
  have p1 := fun t f => enc_in z c t f
  clear h
  go_enter Tryz.func25, Tryz.ntmps25
  try dsimp only [List.append]
  go_wp2_with fail
  refine bodyPost_ret (v := .agg c.cells) ?_ (by rfl) ?_
  · exact results_cg (by rfl) _ _ w.heap.size c (0, 0) (by rfl) (by rw [heap_putRow _ _ _ _ _ (by rw [new_blk]; rfl), if_pos rfl, new_blk]; exact rowPut_full _ _ _ _ (by rw [cg_size]; rfl))
  · exact ⟨rfl, by (repeat' (first | with_reducible exact Chg.refl _ _ | with_reducible assumption | with_reducible refine Chg.drew ?_ | with_reducible refine Chg.drewN ?_ _ | with_reducible refine Chg.alloc ?_ _ | with_reducible refine Chg.putRow ?_ _ _ _ (.inr ?_) | with_reducible refine Chg.setCell ?_ _ _ _ (.inr ?_)  | (show _ ≤ _; first | exact Nat.le_refl _ | omega | (simp; done))))⟩
theorem mconfig_ok {W w : World} {c : Cg} {sy : Nat} {F : List Nat} {ps : List Pt} {en : List En} {es : List Ent} {xs : List Int} (hm : Mem W w c sy F ps en es xs) : Calls Tryz.prog 25 #[.pointer (some ⟨sy, 0, none⟩)] w fun e w' => e = .returned (.agg c.cells) ∧ Chg [] w w' := by
  obtain ⟨z, L, rfl, rfl, rfl, h⟩ := hm
  exact zconfig_ok h
theorem zconfig_nil (w : World) : Calls Tryz.prog 25 #[.pointer none] w fun e w' => e = .returned (.agg cgZ.cells) ∧ Chg [] w w' := by
  go_enter Tryz.func25, Tryz.ntmps25
  try dsimp only [List.append]
  go_wp2_with fail
  refine bodyPost_ret (v := .agg cgZ.cells) ?_ (by rfl) ?_
  · exact results_cg (by rfl) _ _ w.heap.size cgZ (0, 0) (by rfl) (by simp [cgZ_lit])
  · exact ⟨rfl, by (repeat' (first | with_reducible exact Chg.refl _ _ | with_reducible assumption | with_reducible refine Chg.drew ?_ | with_reducible refine Chg.drewN ?_ _ | with_reducible refine Chg.alloc ?_ _ | with_reducible refine Chg.putRow ?_ _ _ _ (.inr ?_) | with_reducible refine Chg.setCell ?_ _ _ _ (.inr ?_)  | (show _ ≤ _; first | exact Nat.le_refl _ | omega | (simp; done))))⟩

theorem kfield_sh (W : World) : (Instr.field 56 (.agg (ec ke3)) 4).run Tryz.prog W = .ok (.int .u8 3) W := by kernel_rfl
theorem kfield_co (W : World) : (Instr.field 23 (.agg kc.cells) 0).run Tryz.prog W = .ok (.int .i64 2) W := by kernel_rfl
attribute [local go_sem ↓] kfield_sh kfield_co

def kf0 : List En := List.replicate kc.li enE
def kf1 : List En := kf0.set 3 ke1
def kf2 : List En := kf1.set 3 ke2
def kf3 : List En := kf2.set 3 ke3
def kp0 : List Pt := [pt0 kc, pt0 kc]
def kp1 : List Pt := [⟨ka1, [kM], [], []⟩, pt0 kc]
def kp2 : List Pt := [⟨ka1, [], [], [kDM]⟩, pt0 kc]
def kp3 : List Pt := [⟨ka2, [], [], []⟩, pt0 kc]
def kp4 : List Pt := [⟨ka3, [], [], []⟩, pt0 kc]
def kp5 : List Pt := [⟨ka3, [], [], []⟩, ⟨kb1, [kS], [], []⟩]
def kp6 : List Pt := [⟨ka3, [], [], [kDn]⟩, ⟨kb1, [], [], []⟩]
def kp7 : List Pt := [⟨ka4, [], [kAk], []⟩, ⟨kb1, [], [], []⟩]
def kp8 : List Pt := [⟨ka4, [], [], []⟩, ⟨kb1, [], [], [kDS]⟩]
def kp9 : List Pt := [⟨ka4, [], [], []⟩, ⟨kb2, [], [], []⟩]
def kp10 : List Pt := [⟨ka4, [], [], []⟩, ⟨kb3, [], [], []⟩]
set_option maxHeartbeats 4000000 in
theorem mwakes (W : World) (hT : Tabs W) : Calls Tryz.prog 11 #[] W fun e w' => e = .returned (.bool true) ∧ Chg [] W w' := by
  have HT := Lib.hid hT
  clear hT
  go_enter Tryz.func11, Tryz.ntmps11
  try dsimp only [List.append]
  go_wp2_with fail
  refine (kplain W).mono ?_
  rintro e w0 ⟨rfl, c0⟩
  have C0 := Lib.hid c0
  clear c0
  go_wp2_with fail
  refine (mnew_none W w0 kc kc_ok C0.out none 0).mono ?_
  rintro e w1 ⟨sy, F0, rfl, hm, hc, hk⟩
  have M0 := Lib.hid (show Mem W w1 kc sy F0 kp0 kf0 [] kx from hm)
  clear hm hc hk
  have hop := mstore_ok M0.out 0 3 1 7 ((pt0 kc) : Pt) rfl HT.out.1 (by decide) (by decide) (by decide) (by rw [kv1]; decide) (by rw [kv1]; decide)
  rw [kv1] at hop
  have HO := Lib.hid hop
  clear hop
  go_wp2_with fail
  refine HO.out.mono ?_
  clear HO
  rintro e w2 ⟨rfl, F1, hm, hc, hk⟩
  have M1 := Lib.hid (show Mem W w2 kc sy F1 kp1 kf0 [] kx from hm)
  clear hm hc hk M0
  have hop := mup_yes M1.out 0 3 ((⟨ka1, [kM], [], []⟩) : Pt) rfl kM [] enE ke1 [0, 0, 0, 0, 0, 0, 0, 0] rfl [⟨0, kDM⟩] HT.out.1 rfl (by decide) rfl rfl rfl kv2 (by decide) 1 (by decide) (by decide)
  have HO := Lib.hid hop
  clear hop
  go_wp2_with fail
  refine HO.out.mono ?_
  clear HO
  rintro e w3 ⟨rfl, F2, hm, hc, hk⟩
  have M2 := Lib.hid (show Mem W w3 kc sy F2 kp2 kf1 [] kx from hm)
  clear hm hc hk M1
  have hop := mhear_yes M2.out 0 ((⟨ka1, [], [], [kDM]⟩) : Pt) rfl kDM [] ka2 [] HT.out rfl (by decide) (by decide) kv3 (by decide) (by decide) (by decide)
  have HO := Lib.hid hop
  clear hop
  go_wp2_with fail
  refine HO.out.mono ?_
  clear HO
  rintro e w4 ⟨rfl, F3, hm, hc, hk⟩
  have M3 := Lib.hid (show Mem W w4 kc sy F3 kp3 kf1 [] kx from hm)
  clear hm hc hk M2
  replace M3 := Lib.hid (M3.out.keep ((Chg.refl [] w4).alloc (.cells (msc kDM) 38)))
  have hop := mstore_ok M3.out 0 3 1 7 ((⟨ka2, [], [], []⟩) : Pt) rfl HT.out.1 (by decide) (by decide) (by decide) (by rw [kv4]; decide) (by rw [kv4]; decide)
  rw [kv4] at hop
  have HO := Lib.hid hop
  clear hop
  go_wp2_with fail
  refine HO.out.mono ?_
  clear HO
  rintro e w5 ⟨rfl, F4, hm, hc, hk⟩
  have M4 := Lib.hid (show Mem W w5 kc sy F4 kp4 kf1 [] kx from hm)
  clear hm hc hk M3
  have hop := mload_ok M4.out 1 3 1 ((pt0 kc) : Pt) rfl HT.out.1 (by decide) (by decide) (by decide) (by rw [kv5]; decide) (by rw [kv5]; decide)
  rw [kv5] at hop
  have HO := Lib.hid hop
  clear hop
  go_wp2_with fail
  refine HO.out.mono ?_
  clear HO
  rintro e w6 ⟨rfl, F5, hm, hc, hk⟩
  have M5 := Lib.hid (show Mem W w6 kc sy F5 kp5 kf1 [] kx from hm)
  clear hm hc hk M4
  have hop := mup_yes M5.out 1 3 ((⟨kb1, [kS], [], []⟩) : Pt) rfl kS [] ke1 ke2 [0, 0, 0, 0, 0, 0, 0, 0] rfl [⟨0, kDn⟩] HT.out.1 rfl (by decide) rfl rfl rfl kv6 (by decide) 1 (by decide) (by decide)
  have HO := Lib.hid hop
  clear hop
  go_wp2_with fail
  refine HO.out.mono ?_
  clear HO
  rintro e w7 ⟨rfl, F6, hm, hc, hk⟩
  have M6 := Lib.hid (show Mem W w7 kc sy F6 kp6 kf2 [] kx from hm)
  clear hm hc hk M5
  have hop := mhear_yes M6.out 0 ((⟨ka3, [], [], [kDn]⟩) : Pt) rfl kDn [] ka4 [kAk] HT.out rfl (by decide) (by decide) kv7 (by decide) (by decide) (by decide)
  have HO := Lib.hid hop
  clear hop
  go_wp2_with fail
  refine HO.out.mono ?_
  clear HO
  rintro e w8 ⟨rfl, F7, hm, hc, hk⟩
  have M7 := Lib.hid (show Mem W w8 kc sy F7 kp7 kf2 [] kx from hm)
  clear hm hc hk M6
  have hop := manswer_yes M7.out 0 3 ((⟨ka4, [], [kAk], []⟩) : Pt) rfl kAk [] ke2 ke3 [⟨1, kDS⟩] HT.out.1 rfl (by decide) rfl rfl kv8 (by decide) 1 (by decide) (by decide)
  have HO := Lib.hid hop
  clear hop
  go_wp2_with fail
  refine HO.out.mono ?_
  clear HO
  rintro e w9 ⟨rfl, F8, hm, hc, hk⟩
  have M8 := Lib.hid (show Mem W w9 kc sy F8 kp8 kf3 [] kx from hm)
  clear hm hc hk M7
  have hop := mhear_yes M8.out 1 ((⟨kb1, [], [], [kDS]⟩) : Pt) rfl kDS [] kb2 [] HT.out rfl (by decide) (by decide) kv9 (by decide) (by decide) (by decide)
  have HO := Lib.hid hop
  clear hop
  go_wp2_with fail
  refine HO.out.mono ?_
  clear HO
  rintro e w10 ⟨rfl, F9, hm, hc, hk⟩
  have M9 := Lib.hid (show Mem W w10 kc sy F9 kp9 kf3 [] kx from hm)
  clear hm hc hk M8
  have hop := mload_ok M9.out 1 3 1 ((⟨kb2, [], [], []⟩) : Pt) rfl HT.out.1 (by decide) (by decide) (by decide) (by rw [kv10]; decide) (by rw [kv10]; decide)
  rw [kv10] at hop
  have HO := Lib.hid hop
  clear hop
  go_wp2_with fail
  refine HO.out.mono ?_
  clear HO
  rintro e w11 ⟨rfl, F10, hm, hc, hk⟩
  have M10 := Lib.hid (show Mem W w11 kc sy F10 kp10 kf3 [] kx from hm)
  clear hm hc hk M9
  go_wp2_with fail
  refine (mentry_ok M10.out 3 ke3 rfl).mono ?_
  rintro e w12 ⟨rfl, c12⟩
  replace M10 := Lib.hid (M10.out.keep c12)
  clear c12
  go_wp2_with fail
  have hsl := mslots_ok M10.out 0 ((⟨ka4, [], [], []⟩) : Pt) rfl
  rw [show live (((⟨ka4, [], [], []⟩) : Pt)).s.1 = [⟨1, 3, [0, 7, 0, 0, 0, 0, 0, 0], 4, rfl⟩] from rfl] at hsl
  refine hsl.mono ?_
  clear hsl
  rintro e w13 ⟨A, n, rfl, _, c13⟩
  replace M10 := Lib.hid (M10.out.keep c13)
  clear c13
  go_wp2_with fail
  refine (mconfig_ok M10.out).mono ?_
  rintro e w14 ⟨rfl, c14⟩
  replace M10 := Lib.hid (M10.out.keep c14)
  clear c14
  go_wp2_with fail
  go_ret
  exact ⟨rfl, M10.out.chg⟩
end Go.Proofs.YtadeoflkppiflaaGreatDoor
end
section
namespace Go.Proofs.YtadeoflkppiflaaGreatDoor
open Go.RowKit
set_option linter.unusedVariables false
set_option maxHeartbeats 1000000
set_option maxRecDepth 100000
attribute [local go_sem ↓] append_appS copy_copS clear_clrS make_mkS cell_row frozen_row loadLine storeLine loadSlot storeSlot heap_drew heap_drewN heap_alloc heap_past heap_setCell heap_putRow vs_get slc_st slc_li slc_us slice_slS loadMsg storeMsg loadHas storeHas msc_kd msc_li msc_di msc_ke
attribute [local go_sem] rowCell_some rowFrozen_some rowHas_some rowIn_some rowPart_full rowPart_lit rowPut_full rowPut_lit rowSet_some size_putRow vs_size vs_one wideLine wideSlot run_loadS run_storeS run_appS run_copS run_clrS run_mkS loadW_at storeW_at fit_all fit_le one_int one_bool one_pointer one_slice allOne_list putRow_new ne_size1 ne_size2 ne_size3 ne_size4 zero8_length lines_nil line_eq lit8 slc_size slc_one slc_part slc_in fold_slt fold_slc slc_set_us wideMsg wideHas run_slS msc_size msc_one msc_part msc_in fold_msc msc_putDi msc_putKe msc_putX msc_has ms4_lit
attribute [local simp ↓] heap_drew heap_drewN heap_alloc heap_past heap_setCell heap_putRow
attribute [local simp] rowCell_some rowFrozen_some rowHas_some rowIn_some rowPart_full rowPart_lit rowPut_full rowPut_lit rowSet_some size_putRow vs_size fit_all putRow_new ne_size1 ne_size2 ne_size3 ne_size4 zero8_length slc_size msc_size msc_putDi msc_putKe msc_putX msc_has fit_le
attribute [local go_sem ↓] ec_he ec_di ec_ow ec_sh ec_bu ec_by ec_wa sc_to
attribute [local go_sem] mi_and mi_or mi_not mi_beq0 mi_bne0 ec_size ec_one ec_part ec_in ec_has ec_setDi ec_setOw ec_setSh ec_setBu ec_setBy ec_setWa ec_setSh0 ec_setWa0 ec_putM sc_size sc_one sc_part sc_in
attribute [local simp] ec_size sc_size ec_setDi ec_setOw ec_setSh ec_setBu ec_setBy ec_setWa ec_setSh0 ec_setWa0 ec_putM
attribute [local go_sem ↓] loadEn storeEn loadSd storeSd en_z0
attribute [local go_sem] wideEn wideSd fold_sc size11 putRow_newB putRow_newC ms5_lit
attribute [local simp] en_z0 putRow_newB putRow_newC fit_le ec_has



attribute [local go_sem ↓] mlitZ zenc_po zenc_en zenc_q
attribute [local simp] mlitZ

/-! ### A step -/
structure MStp where
  kd : Int
  co : Int
  li : Int
  wd : Int
  v : Int
def mstc (x : MStp) : Array Value := #[.int .i64 x.kd, .int .i64 x.co, .int .i64 x.li, .int .i64 x.wd, .int .u64 x.v]
theorem mstc_size (x : MStp) : (mstc x).size = 5 := rfl
theorem mstc_one (x : MStp) : allOne (mstc x) := allOne_list _ rfl
theorem mstc_0 (x : MStp) : (mstc x)[0]? = some (.int .i64 x.kd) := rfl
theorem mstc_1 (x : MStp) : (mstc x)[1]? = some (.int .i64 x.co) := rfl
theorem mstc_2 (x : MStp) : (mstc x)[2]? = some (.int .i64 x.li) := rfl
theorem mstc_3 (x : MStp) : (mstc x)[3]? = some (.int .i64 x.wd) := rfl
theorem mstc_4 (x : MStp) : (mstc x)[4]? = some (.int .u64 x.v) := rfl
theorem wideMst : Wide Tryz.prog 42 5 := ⟨⟨_, Tryz.underlying42, by rfl⟩, by kernel_rfl⟩
theorem loadMst (x : Value) : Instr.loadAt 42 x = loadS 42 5 x := rfl
attribute [local go_sem ↓] loadMst mstc_0 mstc_1 mstc_2 mstc_3 mstc_4
theorem mstc_part (x : MStp) (t : TypeId) (f : Nat × Nat) : rowPart (some (.cells (mstc x) t f)) 0 5 = mstc x := rowPart_full _ _ _ _ rfl
attribute [local go_sem] wideMst mstc_size mstc_one mstc_part
theorem results_do {fn : Func} {a b p d : Tmp} (h : fn.results = #[.tmp a, .tmp b, .cell p 38, .tmp d]) (tmps : Array Value) (w : World) (k : Nat) (m : Ms) (fr : Nat × Nat)
    (hp : tmps.getD p undef = .pointer (some ⟨k, 0, none⟩)) (hb : w.heap[k]? = some (.cells (msc m) 38 fr)) (x y u : Value) (hx : tmps.getD a undef = x) (hy : tmps.getD b undef = y) (hu : tmps.getD d undef = u) :
    (results fn tmps).run Tryz.prog w = .ok (.tuple #[x, y, .agg (msc m), u]) w := by
  subst hx hy hu
  have hp' : tmps[p]?.getD undef = .pointer (some ⟨k, 0, none⟩) := by simpa using hp
  have := run_loadVar_row (P := Tryz.prog) w k 38 38 (msc m) fr _ hb Tryz.underlying38 rfl (by rw [msc_size]; kernel_rfl)
  simp [results, h, hp', asAddr, this]
theorem zpush_nil (k : Int) (w : World) : Calls Tryz.prog 50 #[.pointer none, .int .i64 k] w fun r w' => r = .returned (.int .i64 1) ∧ w = w' := by
  go_enter Tryz.func50, Tryz.ntmps50
  try dsimp only [List.append]
  go_wp2_with (first | (go_at_call 76; refine (isline_nil k _).mono ?_; rintro e w' ⟨rfl, rfl⟩))
  go_ret
  exact ⟨rfl, rfl⟩
theorem donil_0 (x : MStp) (hk : x.kd = 0) (w : World) : Calls Tryz.prog 14 #[.pointer none, .agg (mstc x)] w fun e w' => e = .returned (.tuple #[.int .u64 0, .bool false, .agg (msc msZ), .int .i64 0]) ∧ Chg [] w w' := by
  have s0 : (x.kd == 0) = true := by simp; omega
  clear hk
  go_enter Tryz.func14, Tryz.ntmps14
  try dsimp only [List.append]
  go_wp2_with (first | (go_at_call 28; refine (zload_nil _ _ _ _).mono ?_; rintro e w' ⟨rfl, rfl⟩))
  refine bodyPost_ret (v := .tuple #[.int .u64 0, .bool false, .agg (msc msZ), .int .i64 0]) ?_ (by rfl) ?_
  · exact results_do (by rfl) _ _ (w.heap.size + 1) msZ (0, 0) (by rfl) (by simp [*]) _ _ _ (by rfl) (by rfl) (by rfl)
  · exact ⟨rfl, by (repeat' (first | with_reducible exact Chg.refl _ _ | with_reducible assumption | with_reducible refine Chg.drew ?_ | with_reducible refine Chg.drewN ?_ _ | with_reducible refine Chg.alloc ?_ _ | with_reducible refine Chg.putRow ?_ _ _ _ (.inr ?_) | with_reducible refine Chg.setCell ?_ _ _ _ (.inr ?_)  | (show _ ≤ _; first | exact Nat.le_refl _ | omega | (simp; done))))⟩
theorem donil_1 (x : MStp) (hk : x.kd = 1) (w : World) : Calls Tryz.prog 14 #[.pointer none, .agg (mstc x)] w fun e w' => e = .returned (.tuple #[.int .u64 0, .bool false, .agg (msc msZ), .int .i64 0]) ∧ Chg [] w w' := by
  have s0 : (x.kd == 0) = false := by simp; omega
  have s1 : (x.kd == 1) = true := by simp; omega
  clear hk
  go_enter Tryz.func14, Tryz.ntmps14
  try dsimp only [List.append]
  go_wp2_with (first | (go_at_call 34; refine (zstore_nil _ _ _ _ _).mono ?_; rintro e w' ⟨rfl, rfl⟩))
  refine bodyPost_ret (v := .tuple #[.int .u64 0, .bool false, .agg (msc msZ), .int .i64 0]) ?_ (by rfl) ?_
  · exact results_do (by rfl) _ _ (w.heap.size + 1) msZ (0, 0) (by rfl) (by simp [*]) _ _ _ (by rfl) (by rfl) (by rfl)
  · exact ⟨rfl, by (repeat' (first | with_reducible exact Chg.refl _ _ | with_reducible assumption | with_reducible refine Chg.drew ?_ | with_reducible refine Chg.drewN ?_ _ | with_reducible refine Chg.alloc ?_ _ | with_reducible refine Chg.putRow ?_ _ _ _ (.inr ?_) | with_reducible refine Chg.setCell ?_ _ _ _ (.inr ?_)  | (show _ ≤ _; first | exact Nat.le_refl _ | omega | (simp; done))))⟩
theorem donil_2 (x : MStp) (hk : x.kd = 2) (w : World) : Calls Tryz.prog 14 #[.pointer none, .agg (mstc x)] w fun e w' => e = .returned (.tuple #[.int .u64 0, .bool false, .agg (msc msZ), .int .i64 0]) ∧ Chg [] w w' := by
  have s0 : (x.kd == 0) = false := by simp; omega
  have s1 : (x.kd == 1) = false := by simp; omega
  have s2 : (x.kd == 2) = true := by simp; omega
  clear hk
  go_enter Tryz.func14, Tryz.ntmps14
  try dsimp only [List.append]
  go_wp2_with (first | (go_at_call 49; refine (zreach_nil _ _ _).mono ?_; rintro e w' ⟨rfl, rfl⟩))
  refine bodyPost_ret (v := .tuple #[.int .u64 0, .bool false, .agg (msc msZ), .int .i64 0]) ?_ (by rfl) ?_
  · exact results_do (by rfl) _ _ (w.heap.size + 1) msZ (0, 0) (by rfl) (by simp [*]) _ _ _ (by rfl) (by rfl) (by rfl)
  · exact ⟨rfl, by (repeat' (first | with_reducible exact Chg.refl _ _ | with_reducible assumption | with_reducible refine Chg.drew ?_ | with_reducible refine Chg.drewN ?_ _ | with_reducible refine Chg.alloc ?_ _ | with_reducible refine Chg.putRow ?_ _ _ _ (.inr ?_) | with_reducible refine Chg.setCell ?_ _ _ _ (.inr ?_)  | (show _ ≤ _; first | exact Nat.le_refl _ | omega | (simp; done))))⟩
theorem donil_3 (x : MStp) (hk : x.kd = 3) (w : World) : Calls Tryz.prog 14 #[.pointer none, .agg (mstc x)] w fun e w' => e = .returned (.tuple #[.int .u64 0, .bool false, .agg (msc msZ), .int .i64 1]) ∧ Chg [] w w' := by
  have s0 : (x.kd == 0) = false := by simp; omega
  have s1 : (x.kd == 1) = false := by simp; omega
  have s2 : (x.kd == 2) = false := by simp; omega
  have s3 : (x.kd == 3) = true := by simp; omega
  clear hk
  go_enter Tryz.func14, Tryz.ntmps14
  try dsimp only [List.append]
  go_wp2_with (first | (go_at_call 30; refine (zflush_nil _ _ _ _).mono ?_; rintro e w' ⟨rfl, rfl⟩))
  refine bodyPost_ret (v := .tuple #[.int .u64 0, .bool false, .agg (msc msZ), .int .i64 1]) ?_ (by rfl) ?_
  · exact results_do (by rfl) _ _ (w.heap.size + 1) msZ (0, 0) (by rfl) (by simp [*]) _ _ _ (by rfl) (by rfl) (by rfl)
  · exact ⟨rfl, by (repeat' (first | with_reducible exact Chg.refl _ _ | with_reducible assumption | with_reducible refine Chg.drew ?_ | with_reducible refine Chg.drewN ?_ _ | with_reducible refine Chg.alloc ?_ _ | with_reducible refine Chg.putRow ?_ _ _ _ (.inr ?_) | with_reducible refine Chg.setCell ?_ _ _ _ (.inr ?_)  | (show _ ≤ _; first | exact Nat.le_refl _ | omega | (simp; done))))⟩
theorem donil_4 (x : MStp) (hk : x.kd = 4) (w : World) : Calls Tryz.prog 14 #[.pointer none, .agg (mstc x)] w fun e w' => e = .returned (.tuple #[.int .u64 0, .bool false, .agg (msc msZ), .int .i64 1]) ∧ Chg [] w w' := by
  have s0 : (x.kd == 0) = false := by simp; omega
  have s1 : (x.kd == 1) = false := by simp; omega
  have s2 : (x.kd == 2) = false := by simp; omega
  have s3 : (x.kd == 3) = false := by simp; omega
  have s4 : (x.kd == 4) = true := by simp; omega
  clear hk
  go_enter Tryz.func14, Tryz.ntmps14
  try dsimp only [List.append]
  go_wp2_with (first | (go_at_call 35; refine (zup_nil _ _).mono ?_; rintro e w' ⟨rfl, rfl⟩))
  refine bodyPost_ret (v := .tuple #[.int .u64 0, .bool false, .agg (msc msZ), .int .i64 1]) ?_ (by rfl) ?_
  · exact results_do (by rfl) _ _ (w.heap.size + 1) msZ (0, 0) (by rfl) (by simp [*]) _ _ _ (by rfl) (by rfl) (by rfl)
  · exact ⟨rfl, by (repeat' (first | with_reducible exact Chg.refl _ _ | with_reducible assumption | with_reducible refine Chg.drew ?_ | with_reducible refine Chg.drewN ?_ _ | with_reducible refine Chg.alloc ?_ _ | with_reducible refine Chg.putRow ?_ _ _ _ (.inr ?_) | with_reducible refine Chg.setCell ?_ _ _ _ (.inr ?_)  | (show _ ≤ _; first | exact Nat.le_refl _ | omega | (simp; done))))⟩
theorem donil_5 (x : MStp) (hk : x.kd = 5) (w : World) : Calls Tryz.prog 14 #[.pointer none, .agg (mstc x)] w fun e w' => e = .returned (.tuple #[.int .u64 0, .bool false, .agg (msc msZ), .int .i64 1]) ∧ Chg [] w w' := by
  have s0 : (x.kd == 0) = false := by simp; omega
  have s1 : (x.kd == 1) = false := by simp; omega
  have s2 : (x.kd == 2) = false := by simp; omega
  have s3 : (x.kd == 3) = false := by simp; omega
  have s4 : (x.kd == 4) = false := by simp; omega
  have s5 : (x.kd == 5) = true := by simp; omega
  clear hk
  go_enter Tryz.func14, Tryz.ntmps14
  try dsimp only [List.append]
  go_wp2_with (first | (go_at_call 37; refine (zanswer_nil _ _).mono ?_; rintro e w' ⟨rfl, rfl⟩))
  refine bodyPost_ret (v := .tuple #[.int .u64 0, .bool false, .agg (msc msZ), .int .i64 1]) ?_ (by rfl) ?_
  · exact results_do (by rfl) _ _ (w.heap.size + 1) msZ (0, 0) (by rfl) (by simp [*]) _ _ _ (by rfl) (by rfl) (by rfl)
  · exact ⟨rfl, by (repeat' (first | with_reducible exact Chg.refl _ _ | with_reducible assumption | with_reducible refine Chg.drew ?_ | with_reducible refine Chg.drewN ?_ _ | with_reducible refine Chg.alloc ?_ _ | with_reducible refine Chg.putRow ?_ _ _ _ (.inr ?_) | with_reducible refine Chg.setCell ?_ _ _ _ (.inr ?_)  | (show _ ≤ _; first | exact Nat.le_refl _ | omega | (simp; done))))⟩
theorem donil_6 (x : MStp) (hk : x.kd = 6) (w : World) : Calls Tryz.prog 14 #[.pointer none, .agg (mstc x)] w fun e w' => e = .returned (.tuple #[.int .u64 0, .bool false, .agg (msc msZ), .int .i64 1]) ∧ Chg [] w w' := by
  have s0 : (x.kd == 0) = false := by simp; omega
  have s1 : (x.kd == 1) = false := by simp; omega
  have s2 : (x.kd == 2) = false := by simp; omega
  have s3 : (x.kd == 3) = false := by simp; omega
  have s4 : (x.kd == 4) = false := by simp; omega
  have s5 : (x.kd == 5) = false := by simp; omega
  have s6 : (x.kd == 6) = true := by simp; omega
  clear hk
  go_enter Tryz.func14, Tryz.ntmps14
  try dsimp only [List.append]
  go_wp2_with fail
  have r0 : ((w.alloc (.cells (mstc x) 42)).alloc (.cells (msc msZ) 38)).heap[w.heap.size + 1]? = some (.cells (msc msZ) 38 (0, 0)) := by simp
  refine (zhear_nil _ _).mono ?_
  rintro e w5 ⟨rfl, c5⟩
  have C5 := Lib.hid ((((Chg.refl [] w).alloc (.cells (mstc x) 42)).alloc (.cells (msc msZ) 38)).trans c5)
  replace r0 := c5.keep r0 List.not_mem_nil
  have o0 := old r0
  generalize hb : w.heap.size + 1 = b at r0 o0 ⊢
  have HB := Lib.hid hb
  clear hb c5
  go_wp2_with fail
  have ne5 : b ≠ w5.heap.size := by have := o0.lt; omega
  have r1 : (w5.alloc (.cells (msc msZ) 38)).heap[b]? = some (.cells (msc msZ) 38 (0, 0)) := ((Chg.refl [] w5).alloc _).keep r0 List.not_mem_nil
  have r2 : (w5.alloc (.cells (msc msZ) 38)).heap[w5.heap.size]? = some (.cells (msc msZ) 38 (0, 0)) := new_blk _ _
  have C6 := Lib.hid (C5.out.alloc (.cells (msc msZ) 38))
  generalize w5.heap.size = b5 at r2 ne5 ⊢
  generalize w5.alloc (.cells (msc msZ) 38) = w6 at r1 r2 C6 ⊢
  clear r0 o0
  have o1 := old r1
  have o2 := old r2
  go_region
  all_goals
    go_wp2_with fail
    refine bodyPost_ret (v := .tuple #[.int .u64 0, .bool false, .agg (msc msZ), .int .i64 1]) ?_ (by rfl) ?_
    · exact results_do (by rfl) _ _ b msZ (0, 0) (by rfl) (by rw [heap_putRow _ _ _ _ _ (by rw [heap_drew, r1]; rfl), if_pos rfl, heap_drew, r1]; exact rowPut_full _ _ _ _ rfl) _ _ _ (by rfl) (by rfl) (by rfl)
    · exact ⟨rfl, C6.out.drew.putRow _ _ _ (.inr (by rw [← HB.out]; omega))⟩
theorem donil_7 (x : MStp) (hk : x.kd = 7) (w : World) : Calls Tryz.prog 14 #[.pointer none, .agg (mstc x)] w fun e w' => e = .returned (.tuple #[.int .u64 0, .bool false, .agg (msc msZ), .int .i64 1]) ∧ Chg [] w w' := by
  have s0 : (x.kd == 0) = false := by simp; omega
  have s1 : (x.kd == 1) = false := by simp; omega
  have s2 : (x.kd == 2) = false := by simp; omega
  have s3 : (x.kd == 3) = false := by simp; omega
  have s4 : (x.kd == 4) = false := by simp; omega
  have s5 : (x.kd == 5) = false := by simp; omega
  have s6 : (x.kd == 6) = false := by simp; omega
  have s7 : (x.kd == 7) = true := by simp; omega
  clear hk
  go_enter Tryz.func14, Tryz.ntmps14
  try dsimp only [List.append]
  go_wp2_with (first | (go_at_call 50; refine (zpush_nil _ _).mono ?_; rintro e w' ⟨rfl, rfl⟩))
  refine bodyPost_ret (v := .tuple #[.int .u64 0, .bool false, .agg (msc msZ), .int .i64 1]) ?_ (by rfl) ?_
  · exact results_do (by rfl) _ _ (w.heap.size + 1) msZ (0, 0) (by rfl) (by simp [*]) _ _ _ (by rfl) (by rfl) (by rfl)
  · exact ⟨rfl, by (repeat' (first | with_reducible exact Chg.refl _ _ | with_reducible assumption | with_reducible refine Chg.drew ?_ | with_reducible refine Chg.drewN ?_ _ | with_reducible refine Chg.alloc ?_ _ | with_reducible refine Chg.putRow ?_ _ _ _ (.inr ?_) | with_reducible refine Chg.setCell ?_ _ _ _ (.inr ?_)  | (show _ ≤ _; first | exact Nat.le_refl _ | omega | (simp; done))))⟩
theorem donil_8 (x : MStp) (hk : x.kd = 8) (w : World) : Calls Tryz.prog 14 #[.pointer none, .agg (mstc x)] w fun e w' => e = .returned (.tuple #[.int .u64 0, .bool false, .agg (msc msZ), .int .i64 1]) ∧ Chg [] w w' := by
  have s0 : (x.kd == 0) = false := by simp; omega
  have s1 : (x.kd == 1) = false := by simp; omega
  have s2 : (x.kd == 2) = false := by simp; omega
  have s3 : (x.kd == 3) = false := by simp; omega
  have s4 : (x.kd == 4) = false := by simp; omega
  have s5 : (x.kd == 5) = false := by simp; omega
  have s6 : (x.kd == 6) = false := by simp; omega
  have s7 : (x.kd == 7) = false := by simp; omega
  have s8 : (x.kd == 8) = true := by simp; omega
  clear hk
  go_enter Tryz.func14, Tryz.ntmps14
  try dsimp only [List.append]
  go_wp2_with (first | (go_at_call 32; refine (zevict_nil _ _ _).mono ?_; rintro e w' ⟨rfl, rfl⟩))
  refine bodyPost_ret (v := .tuple #[.int .u64 0, .bool false, .agg (msc msZ), .int .i64 1]) ?_ (by rfl) ?_
  · exact results_do (by rfl) _ _ (w.heap.size + 1) msZ (0, 0) (by rfl) (by simp [*]) _ _ _ (by rfl) (by rfl) (by rfl)
  · exact ⟨rfl, by (repeat' (first | with_reducible exact Chg.refl _ _ | with_reducible assumption | with_reducible refine Chg.drew ?_ | with_reducible refine Chg.drewN ?_ _ | with_reducible refine Chg.alloc ?_ _ | with_reducible refine Chg.putRow ?_ _ _ _ (.inr ?_) | with_reducible refine Chg.setCell ?_ _ _ _ (.inr ?_)  | (show _ ≤ _; first | exact Nat.le_refl _ | omega | (simp; done))))⟩
theorem donil_9 (x : MStp) (hk : x.kd = 9) (w : World) : Calls Tryz.prog 14 #[.pointer none, .agg (mstc x)] w fun e w' => e = .returned (.tuple #[.int .u64 0, .bool false, .agg (msc msZ), .int .i64 1]) ∧ Chg [] w w' := by
  have s0 : (x.kd == 0) = false := by simp; omega
  have s1 : (x.kd == 1) = false := by simp; omega
  have s2 : (x.kd == 2) = false := by simp; omega
  have s3 : (x.kd == 3) = false := by simp; omega
  have s4 : (x.kd == 4) = false := by simp; omega
  have s5 : (x.kd == 5) = false := by simp; omega
  have s6 : (x.kd == 6) = false := by simp; omega
  have s7 : (x.kd == 7) = false := by simp; omega
  have s8 : (x.kd == 8) = false := by simp; omega
  have s9 : (x.kd == 9) = true := by simp; omega
  clear hk
  go_enter Tryz.func14, Tryz.ntmps14
  try dsimp only [List.append]
  go_wp2_with (first | (go_at_call 31; refine (zdrop_nil _ _).mono ?_; rintro e w' ⟨rfl, rfl⟩))
  refine bodyPost_ret (v := .tuple #[.int .u64 0, .bool false, .agg (msc msZ), .int .i64 1]) ?_ (by rfl) ?_
  · exact results_do (by rfl) _ _ (w.heap.size + 1) msZ (0, 0) (by rfl) (by simp [*]) _ _ _ (by rfl) (by rfl) (by rfl)
  · exact ⟨rfl, by (repeat' (first | with_reducible exact Chg.refl _ _ | with_reducible assumption | with_reducible refine Chg.drew ?_ | with_reducible refine Chg.drewN ?_ _ | with_reducible refine Chg.alloc ?_ _ | with_reducible refine Chg.putRow ?_ _ _ _ (.inr ?_) | with_reducible refine Chg.setCell ?_ _ _ _ (.inr ?_)  | (show _ ≤ _; first | exact Nat.le_refl _ | omega | (simp; done))))⟩
theorem donil_10 (x : MStp) (hk : x.kd = 10) (w : World) : Calls Tryz.prog 14 #[.pointer none, .agg (mstc x)] w fun e w' => e = .returned (.tuple #[.int .u64 0, .bool false, .agg (msc msZ), .int .i64 1]) ∧ Chg [] w w' := by
  have s0 : (x.kd == 0) = false := by simp; omega
  have s1 : (x.kd == 1) = false := by simp; omega
  have s2 : (x.kd == 2) = false := by simp; omega
  have s3 : (x.kd == 3) = false := by simp; omega
  have s4 : (x.kd == 4) = false := by simp; omega
  have s5 : (x.kd == 5) = false := by simp; omega
  have s6 : (x.kd == 6) = false := by simp; omega
  have s7 : (x.kd == 7) = false := by simp; omega
  have s8 : (x.kd == 8) = false := by simp; omega
  have s9 : (x.kd == 9) = false := by simp; omega
  have s10 : (x.kd == 10) = true := by simp; omega
  clear hk
  go_enter Tryz.func14, Tryz.ntmps14
  try dsimp only [List.append]
  go_wp2_with (first | (go_at_call 51; refine (zdrain_nil _ _).mono ?_; rintro e w' ⟨rfl, rfl⟩))
  refine bodyPost_ret (v := .tuple #[.int .u64 0, .bool false, .agg (msc msZ), .int .i64 1]) ?_ (by rfl) ?_
  · exact results_do (by rfl) _ _ (w.heap.size + 1) msZ (0, 0) (by rfl) (by simp [*]) _ _ _ (by rfl) (by rfl) (by rfl)
  · exact ⟨rfl, by (repeat' (first | with_reducible exact Chg.refl _ _ | with_reducible assumption | with_reducible refine Chg.drew ?_ | with_reducible refine Chg.drewN ?_ _ | with_reducible refine Chg.alloc ?_ _ | with_reducible refine Chg.putRow ?_ _ _ _ (.inr ?_) | with_reducible refine Chg.setCell ?_ _ _ _ (.inr ?_)  | (show _ ≤ _; first | exact Nat.le_refl _ | omega | (simp; done))))⟩
theorem donil_11 (x : MStp) (hk : x.kd = 11) (w : World) : Calls Tryz.prog 14 #[.pointer none, .agg (mstc x)] w fun e w' => e = .returned (.tuple #[.int .u64 0, .bool false, .agg (msc msZ), .int .i64 0]) ∧ Chg [] w w' := by
  have s0 : (x.kd == 0) = false := by simp; omega
  have s1 : (x.kd == 1) = false := by simp; omega
  have s2 : (x.kd == 2) = false := by simp; omega
  have s3 : (x.kd == 3) = false := by simp; omega
  have s4 : (x.kd == 4) = false := by simp; omega
  have s5 : (x.kd == 5) = false := by simp; omega
  have s6 : (x.kd == 6) = false := by simp; omega
  have s7 : (x.kd == 7) = false := by simp; omega
  have s8 : (x.kd == 8) = false := by simp; omega
  have s9 : (x.kd == 9) = false := by simp; omega
  have s10 : (x.kd == 10) = false := by simp; omega
  have s11 : (x.kd == 11) = true := by simp; omega
  clear hk
  go_enter Tryz.func14, Tryz.ntmps14
  try dsimp only [List.append]
  go_wp2_with (first | (go_at_call 22; refine (zfail_nil _).mono ?_; rintro e w' ⟨rfl, rfl⟩))
  refine bodyPost_ret (v := .tuple #[.int .u64 0, .bool false, .agg (msc msZ), .int .i64 0]) ?_ (by rfl) ?_
  · exact results_do (by rfl) _ _ (w.heap.size + 1) msZ (0, 0) (by rfl) (by simp [*]) _ _ _ (by rfl) (by rfl) (by rfl)
  · exact ⟨rfl, by (repeat' (first | with_reducible exact Chg.refl _ _ | with_reducible assumption | with_reducible refine Chg.drew ?_ | with_reducible refine Chg.drewN ?_ _ | with_reducible refine Chg.alloc ?_ _ | with_reducible refine Chg.putRow ?_ _ _ _ (.inr ?_) | with_reducible refine Chg.setCell ?_ _ _ _ (.inr ?_)  | (show _ ≤ _; first | exact Nat.le_refl _ | omega | (simp; done))))⟩
theorem donil_12 (x : MStp) (hk : (x.kd < 0 ∨ 11 < x.kd)) (w : World) : Calls Tryz.prog 14 #[.pointer none, .agg (mstc x)] w fun e w' => e = .returned (.tuple #[.int .u64 0, .bool false, .agg (msc msZ), .int .i64 0]) ∧ Chg [] w w' := by
  have s0 : (x.kd == 0) = false := by simp; omega
  have s1 : (x.kd == 1) = false := by simp; omega
  have s2 : (x.kd == 2) = false := by simp; omega
  have s3 : (x.kd == 3) = false := by simp; omega
  have s4 : (x.kd == 4) = false := by simp; omega
  have s5 : (x.kd == 5) = false := by simp; omega
  have s6 : (x.kd == 6) = false := by simp; omega
  have s7 : (x.kd == 7) = false := by simp; omega
  have s8 : (x.kd == 8) = false := by simp; omega
  have s9 : (x.kd == 9) = false := by simp; omega
  have s10 : (x.kd == 10) = false := by simp; omega
  have s11 : (x.kd == 11) = false := by simp; omega
  clear hk
  go_enter Tryz.func14, Tryz.ntmps14
  try dsimp only [List.append]
  go_wp2_with fail
  refine bodyPost_ret (v := .tuple #[.int .u64 0, .bool false, .agg (msc msZ), .int .i64 0]) ?_ (by rfl) ?_
  · exact results_do (by rfl) _ _ (w.heap.size + 1) msZ (0, 0) (by rfl) (by simp [*]) _ _ _ (by rfl) (by rfl) (by rfl)
  · exact ⟨rfl, by (repeat' (first | with_reducible exact Chg.refl _ _ | with_reducible assumption | with_reducible refine Chg.drew ?_ | with_reducible refine Chg.drewN ?_ _ | with_reducible refine Chg.alloc ?_ _ | with_reducible refine Chg.putRow ?_ _ _ _ (.inr ?_) | with_reducible refine Chg.setCell ?_ _ _ _ (.inr ?_)  | (show _ ≤ _; first | exact Nat.le_refl _ | omega | (simp; done))))⟩

theorem donil_any (x : MStp) (v : Int) (hv : ((3 ≤ x.kd ∧ x.kd ≤ 10) ∧ v = 1) ∨ ((x.kd < 3 ∨ 10 < x.kd) ∧ v = 0)) (w : World) : Calls Tryz.prog 14 #[.pointer none, .agg (mstc x)] w fun e w' => e = .returned (.tuple #[.int .u64 0, .bool false, .agg (msc msZ), .int .i64 v]) ∧ Chg [] w w' := by
  rcases hv with ⟨⟨h1, h2⟩, rfl⟩ | ⟨h1, rfl⟩
  · have h3 : x.kd = 3 ∨ x.kd = 4 ∨ x.kd = 5 ∨ x.kd = 6 ∨ x.kd = 7 ∨ x.kd = 8 ∨ x.kd = 9 ∨ x.kd = 10 := by omega
    rcases h3 with h | h | h | h | h | h | h | h
    · exact donil_3 x h w
    · exact donil_4 x h w
    · exact donil_5 x h w
    · exact donil_6 x h w
    · exact donil_7 x h w
    · exact donil_8 x h w
    · exact donil_9 x h w
    · exact donil_10 x h w
  · have h3 : x.kd = 0 ∨ x.kd = 1 ∨ x.kd = 2 ∨ x.kd = 11 ∨ (x.kd < 0 ∨ 11 < x.kd) := by omega
    rcases h3 with h | h | h | h | h
    · exact donil_0 x h w
    · exact donil_1 x h w
    · exact donil_2 x h w
    · exact donil_11 x h w
    · exact donil_12 x h w
theorem znew_zero (w : World) : Calls Tryz.prog 12 #[.agg #[.int .i64 0, .int .i64 0, .int .i64 0, .int .i64 0, .int .i64 0, .int .i64 0, .int .i64 0], .slice none 0 0] w fun e w' => e = .returned (.tuple #[.pointer none, .int .i64 1]) ∧ Chg [] w w' := by
  have hg : goodB 0 0 0 0 0 0 0 = false := by decide
  go_enter Tryz.func12, Tryz.ntmps12
  try dsimp only [List.append]
  go_wp2_with fail
  refine (good_any 0 0 0 0 0 0 0 _).mono ?_
  rintro e w2 ⟨rfl, hw2⟩
  have c2 : Chg [] w w2 := by subst hw2; exact ((Chg.refl [] w).alloc _).alloc _
  clear hw2
  rw [hg]
  go_wp2_with fail
  go_ret2
  exact ⟨rfl, c2⟩
theorem cgZ_field (W : World) : (Instr.field 23 (.agg cgZ.cells) 0).run Tryz.prog W = .ok (.int .i64 0) W := by kernel_rfl
attribute [local go_sem ↓] cgZ_field msg_same msg_sameZ
set_option maxHeartbeats 4000000 in
theorem mnone_any (x : MStp) (W : World) (hT : Tabs W) : Calls Tryz.prog 8 #[.agg (mstc x)] W fun e w' => e = .returned (.bool true) ∧ Chg [] W w' := by
  have HT := Lib.hid hT
  have z1 : enE.ow = -1 := rfl
  have z2 : enE.he = false := rfl
  have hcase : ∃ v : Int, (((3 ≤ x.kd ∧ x.kd ≤ 10) ∧ v = 1) ∨ ((x.kd < 3 ∨ 10 < x.kd) ∧ v = 0)) ∧ ((decide (x.kd < 3) = true) ∨ (decide (x.kd < 3) = false ∧ decide (10 < x.kd) = true) ∨ (decide (x.kd < 3) = false ∧ decide (10 < x.kd) = false ∧ v = 1)) := by
    by_cases h3 : x.kd < 3
    · exact ⟨0, .inr ⟨.inl h3, rfl⟩, .inl (by simpa using h3)⟩
    · by_cases h4 : 10 < x.kd
      · exact ⟨0, .inr ⟨.inr h4, rfl⟩, .inr (.inl ⟨by simpa using h3, by simpa using h4⟩)⟩
      · exact ⟨1, .inl ⟨⟨by omega, by omega⟩, rfl⟩, .inr (.inr ⟨by simpa using h3, by simpa using h4, rfl⟩)⟩
  obtain ⟨v, hv, hc⟩ := hcase
  have HV := Lib.hid hv
  clear hv hT
  have main : ∀ (b1 : Bool) (b2 : Bool), decide (x.kd < 3) = b1 → decide (10 < x.kd) = b2 → (b1 = true ∨ (b1 = false ∧ b2 = true) ∨ (b1 = false ∧ b2 = false ∧ v = 1)) → Calls Tryz.prog 8 #[.agg (mstc x)] W fun e w' => e = .returned (.bool true) ∧ Chg [] W w' := by
    intro b1 b2 hb1 hb2 hbb
    go_enter Tryz.func8, Tryz.ntmps8
    try dsimp only [List.append]
    go_wp2_with (first | (go_at_call 22; refine (zfail_nil _).mono ?_; rintro e w' ⟨rfl, rfl⟩) | (go_at_call 24; refine (zqueues_nil _ _).mono ?_; rintro e w' ⟨rfl, rfl⟩) | (go_at_call 19; refine (zslots_nil _ _).mono ?_; rintro e w' ⟨rfl, rfl⟩) | (go_at_call 23; refine (zwaiting_nil _).mono ?_; rintro e w' ⟨rfl, rfl⟩) | (go_at_call 18; refine (zmemory_nil _).mono ?_; rintro e w' ⟨rfl, rfl⟩))
    have r1 : (W.alloc (.cells (mstc x) 42)).heap[W.heap.size]? = some (.cells (mstc x) 42 (0, 0)) := new_blk _ _
    have C1 := Lib.hid ((Chg.refl [] W).alloc (.cells (mstc x) 42))
    refine (donil_any x v HV.out _).mono ?_
    rintro e w2 ⟨rfl, c2⟩
    replace r1 := c2.keep r1 List.not_mem_nil
    have C2 := Lib.hid (C1.out.trans c2)
    clear c2 C1
    generalize W.heap.size = k1 at r1 ⊢
    have o1 := old r1
    go_wp2_with (first | (go_at_call 22; refine (zfail_nil _).mono ?_; rintro e w' ⟨rfl, rfl⟩) | (go_at_call 24; refine (zqueues_nil _ _).mono ?_; rintro e w' ⟨rfl, rfl⟩) | (go_at_call 19; refine (zslots_nil _ _).mono ?_; rintro e w' ⟨rfl, rfl⟩) | (go_at_call 23; refine (zwaiting_nil _).mono ?_; rintro e w' ⟨rfl, rfl⟩) | (go_at_call 18; refine (zmemory_nil _).mono ?_; rintro e w' ⟨rfl, rfl⟩))
    have C3 := Lib.hid (C2.out.alloc (.cells (msc msZ) 38))
    replace r1 := ((Chg.refl [] w2).alloc (.cells (msc msZ) 38)).keep r1 List.not_mem_nil
    have r2 : (w2.alloc (.cells (msc msZ) 38)).heap[w2.heap.size]? = some (.cells (msc msZ) 38 (0, 0)) := new_blk _ _
    generalize w2.heap.size = k2 at r2 ⊢
    generalize w2.alloc (.cells (msc msZ) 38) = w3 at r1 r2 C3 ⊢
    clear o1
    refine (znew_zero w3).mono ?_
    rintro e w4 ⟨rfl, c4⟩
    replace r1 := c4.keep r1 List.not_mem_nil
    replace r2 := c4.keep r2 List.not_mem_nil
    have C4 := Lib.hid (C3.out.trans c4)
    have o1 := old r1
    have o2 := old r2
    clear c4
    go_wp2_with fail
    refine (zentry_nil _ w4).mono ?_
    rintro e w5 ⟨rfl, c5⟩
    replace r1 := c5.keep r1 List.not_mem_nil
    replace r2 := c5.keep r2 List.not_mem_nil
    have C5 := Lib.hid (C4.out.trans c5)
    clear c5 o1 o2
    have r3 : (w5.alloc (.cells (ec enE) 56)).heap[w5.heap.size]? = some (.cells (ec enE) 56 (0, 0)) := new_blk _ _
    have o1 := old r1
    have o2 := old r2
    rcases hbb with h | ⟨h, h'⟩ | ⟨h, h', h''⟩
    · subst h
      go_wp2_with (first | (go_at_call 19; refine (zslots_nil _ _).mono ?_; rintro e w' ⟨rfl, rfl⟩) | (go_at_call 23; refine (zwaiting_nil _).mono ?_; rintro e w' ⟨rfl, rfl⟩) | (go_at_call 18; refine (zmemory_nil _).mono ?_; rintro e w' ⟨rfl, rfl⟩))
      refine (zconfig_nil _).mono ?_
      rintro e w6 ⟨rfl, c6⟩
      have C6 := Lib.hid ((C5.out.alloc _).trans c6)
      clear c6
      go_wp2_with fail
      refine (mwakes w6 ⟨HT.out.1.keep C6.out (by simp), HT.out.2.keep C6.out (by simp)⟩).mono ?_
      rintro e w7 ⟨rfl, c7⟩
      go_wp2_with fail
      go_ret
      exact ⟨rfl, C6.out.trans c7⟩
    · subst h h'
      go_wp2_with (first | (go_at_call 19; refine (zslots_nil _ _).mono ?_; rintro e w' ⟨rfl, rfl⟩) | (go_at_call 23; refine (zwaiting_nil _).mono ?_; rintro e w' ⟨rfl, rfl⟩) | (go_at_call 18; refine (zmemory_nil _).mono ?_; rintro e w' ⟨rfl, rfl⟩))
      refine (zconfig_nil _).mono ?_
      rintro e w6 ⟨rfl, c6⟩
      have C6 := Lib.hid ((C5.out.alloc _).trans c6)
      clear c6
      go_wp2_with fail
      refine (mwakes w6 ⟨HT.out.1.keep C6.out (by simp), HT.out.2.keep C6.out (by simp)⟩).mono ?_
      rintro e w7 ⟨rfl, c7⟩
      go_wp2_with fail
      go_ret
      exact ⟨rfl, C6.out.trans c7⟩
    · subst h h' h''
      go_wp2_with (first | (go_at_call 19; refine (zslots_nil _ _).mono ?_; rintro e w' ⟨rfl, rfl⟩) | (go_at_call 23; refine (zwaiting_nil _).mono ?_; rintro e w' ⟨rfl, rfl⟩) | (go_at_call 18; refine (zmemory_nil _).mono ?_; rintro e w' ⟨rfl, rfl⟩))
      refine (zconfig_nil _).mono ?_
      rintro e w6 ⟨rfl, c6⟩
      have C6 := Lib.hid ((C5.out.alloc _).trans c6)
      clear c6
      go_wp2_with fail
      refine (mwakes w6 ⟨HT.out.1.keep C6.out (by simp), HT.out.2.keep C6.out (by simp)⟩).mono ?_
      rintro e w7 ⟨rfl, c7⟩
      go_wp2_with fail
      go_ret
      exact ⟨rfl, C6.out.trans c7⟩
  exact main _ _ rfl rfl hc
end Go.Proofs.YtadeoflkppiflaaGreatDoor
end
section
namespace Go.Proofs.YtadeoflkppiflaaGreatDoor
open Go.ChangeShapes Go.WideShapes Go.ChangeAt Go.RowKit
set_option linter.unusedVariables false

theorem own : ownKnob Tryz.prog.godebug = none := by kernel_rfl
theorem laidOut : laidOutB Tryz.prog = true := by kernel_rfl

/-- What a list of two variables gives: their blocks. -/
theorem block_of_laid2 {P : Program} {W : World} {name name' : String} {d d' : DataW Unit} {g g' : Nat} {t t' : TypeId} {n n' : Nat}
    (hg : P.globalNamed name = some g) (hty : (P.globals[g]?).map (·.type) = some t) (hp : plainTy P n t = true)
    (hg' : P.globalNamed name' = some g') (hty' : (P.globals[g']?).map (·.type) = some t') (hp' : plainTy P n' t' = true)
    (hpl : ([(name, d), (name', d')].all fun x => x.2.handleName?.isNone) = true) (h : laidMetH P [(name, d), (name', d')] W) :
    (∃ ty f, W.heap[g]? = some (.cells (flat d).toArray ty f)) ∧ ∃ ty f, W.heap[g']? = some (.cells (flat d').toArray ty f) := by
  rw [MakeChecks.laidMetH_plain _ _ _ hpl] at h
  obtain ⟨ps, ⟨g1, t1, cs, fuel, p, q, hg1, ht1, hvar, hd, ⟨g2, t2, cs2, fuel2, p2, q2, hg2, ht2, hvar2, hd2, _, _⟩, _⟩, _⟩ := h
  obtain rfl := Option.some.inj (hg.symm.trans hg1)
  obtain rfl := Option.some.inj (hty.symm.trans ht1)
  obtain rfl := Option.some.inj (hg'.symm.trans hg2)
  obtain rfl := Option.some.inj (hty'.symm.trans ht2)
  have e := trod_flat n t hp _ _ _ hd
  have e2 := trod_flat n' t' hp' _ _ _ hd2
  refine ⟨?_, ?_⟩
  · unfold World.var? at hvar
    rw [hg] at hvar
    simp only [Option.bind_some] at hvar
    split at hvar
    · rename_i c ty f hh
      injection hvar with hvar
      subst hvar
      refine ⟨ty, f, ?_⟩
      rw [hh, ← show c.toList = flat d from e]
    · cases hvar
  · unfold World.var? at hvar2
    rw [hg'] at hvar2
    simp only [Option.bind_some] at hvar2
    split at hvar2
    · rename_i c ty f hh
      injection hvar2 with hvar2
      subst hvar2
      refine ⟨ty, f, ?_⟩
      rw [hh, ← show c.toList = flat d' from e2]
    · cases hvar2
def laidM : List (String × DataW Unit) := [("bellows/msg.mayHave", Rows.laid_bellows_msg_mayHave), ("bellows/agent.becomes", Rows.laid_bellows_agent_becomes)]
theorem gMay : Tryz.prog.globalNamed "bellows/msg.mayHave" = some 1 := by kernel_rfl
theorem tMay : (Tryz.prog.globals[1]?).map (·.type) = some 264 := by kernel_rfl
theorem gBec : Tryz.prog.globalNamed "bellows/agent.becomes" = some 0 := by kernel_rfl
theorem tBec : (Tryz.prog.globals[0]?).map (·.type) = some 227 := by kernel_rfl
theorem flatMay : flat (H := Unit) Rows.laid_bellows_msg_mayHave = tabL := by rfl
theorem flatBec : flat (H := Unit) Rows.laid_bellows_agent_becomes = tbL := by rfl
theorem tabs_of_laid {W : World} (h : laidMetH Tryz.prog laidM W) : Tabs W := by
  have := block_of_laid2 (n := 9) (n' := 9) gMay tMay (by kernel_rfl) gBec tBec (by kernel_rfl) (by kernel_rfl) h
  rw [flatMay, flatBec] at this
  exact this
theorem door_met (os : Os) (args : Array Value) : laidMetH Tryz.prog laidM ((World.doorLaid Tryz.prog 200 os).forCall (fun _ _ => 0) ⟨#[], args, []⟩).memory :=
  laidMetH_of_parts3 (fuel := 8) (laidMet_of_run' 8 (by kernel_rfl) (by kernel_rfl)) (by kernel_rfl) (by kernel_rfl)
def kMst : List Kd := [.int .i64, .int .i64, .int .i64, .int .i64, .int .u64]
theorem mstep_cells {w : World} {cs : List Value} (h : AreKd w kMst cs) : ∃ x : MStp, cs = (mstc x).toList := by
  obtain ⟨v0, c0, rfl, h0, hA⟩ := AreKd.head h
  obtain ⟨v1, c1, rfl, h1, hB⟩ := AreKd.head hA
  obtain ⟨v2, c2, rfl, h2, hC⟩ := AreKd.head hB
  obtain ⟨v3, c3, rfl, h3, hD⟩ := AreKd.head hC
  obtain ⟨v4, c4, rfl, h4, hE⟩ := AreKd.head hD
  obtain rfl := AreKd.done hE
  simp only [IsKd] at h0 h1 h2 h3 h4
  obtain ⟨kd, rfl, _⟩ := h0
  obtain ⟨co, rfl, _⟩ := h1
  obtain ⟨li, rfl, _⟩ := h2
  obtain ⟨wd, rfl, _⟩ := h3
  obtain ⟨v, rfl, _⟩ := h4
  exact ⟨⟨kd, co, li, wd, v⟩, rfl⟩
theorem kinds_mst : kinds Tryz.prog 9 42 = some kMst := by kernel_rfl
theorem to_below {e : Ending} {W w' : World} (h : e = .returned (.bool true) ∧ Chg [] W w') : e = .returned (.bool true) ∧ Below W.heap.size W w' := ⟨h.1, h.2.below (Nat.le_refl _) (by simp)⟩
end Go.Proofs.YtadeoflkppiflaaGreatDoor
end
