/- Texts of the walk, one behind the other: Mga Mgb Mgc Dpv Dpw Mgd. No condition. -/
import Derived.Test.YtadeoflkppiflaaGreatDoorOai
import Derived.Test.YtadeoflkppiflaaGreatDoorOaj
import Derived.Test.YtadeoflkppiflaaGreatDoorOam
import Derived.BigQuiet
import Derived.Deep.Cut
import Derived.Deep.CutBlock
import Derived.Deep.CutRange
import Derived.Deep.DeepCutAuto
import Derived.Deep.QuietTactic
import Derived.Deep.RegionHeld3
import Derived.Deep.RegionWith
section
namespace Go.Proofs.YtadeoflkppiflaaGreatDoor
open Go.RowKit
set_option linter.unusedVariables false
set_option maxHeartbeats 1000000
set_option maxRecDepth 100000
attribute [local go_sem ↓] append_appS copy_copS clear_clrS make_mkS cell_row frozen_row loadLine storeLine loadSlot storeSlot heap_drew heap_drewN heap_alloc heap_past heap_setCell heap_putRow vs_get slc_st slc_li slc_us slice_slS loadMsg storeMsg loadHas storeHas msc_kd msc_li msc_di msc_ke
attribute [local go_sem] rowCell_some rowFrozen_some rowHas_some rowIn_some rowPart_full rowPart_lit rowPut_full rowPut_lit rowSet_some size_putRow vs_size vs_one wideLine wideSlot run_loadS run_storeS run_appS run_copS run_clrS run_mkS loadW_at storeW_at fit_all fit_le one_int one_bool one_pointer one_slice allOne_list putRow_new ne_size1 ne_size2 ne_size3 ne_size4 zero8_length lines_nil line_eq lit8 slc_size slc_one slc_part slc_in fold_slt fold_slc slc_set_us wideMsg wideHas run_slS msc_size msc_one msc_part msc_in fold_msc msc_putDi msc_putKe msc_putX msc_has ms4_lit
attribute [local simp ↓] heap_drew heap_drewN heap_alloc heap_past heap_setCell heap_putRow
attribute [local simp] rowCell_some rowFrozen_some rowHas_some rowIn_some rowPart_full rowPart_lit rowPut_full rowPut_lit rowSet_some size_putRow vs_size fit_all putRow_new ne_size1 ne_size2 ne_size3 ne_size4 zero8_length slc_size msc_size msc_putDi msc_putKe msc_putX msc_has fit_le
attribute [local go_sem ↓] ec_he ec_di ec_ow ec_sh ec_bu ec_by ec_wa sc_to
attribute [local go_sem] mi_and mi_or mi_not mi_beq0 mi_bne0 ec_size ec_one ec_part ec_in ec_has ec_setDi ec_setOw ec_setSh ec_setBu ec_setBy ec_setWa ec_setSh0 ec_setWa0 ec_putM sc_size sc_one sc_part sc_in
attribute [local simp] ec_size sc_size ec_setDi ec_setOw ec_setSh ec_setBu ec_setBy ec_setWa ec_setSh0 ec_setWa0 ec_putM
attribute [local go_sem ↓] loadEn storeEn loadSd storeSd en_z0
attribute [local go_sem] wideEn wideSd fold_sc size11 putRow_newB putRow_newC ms5_lit
attribute [local simp] en_z0 putRow_newB putRow_newC fit_le ec_has


/-- A system of what it has, in these blocks. -/
def Mem (W w : World) (c : Cg) (sy : Nat) (F : List Nat) (ps : List Pt) (en : List En) (es : List Ent) (xs : List Int) : Prop := ∃ z L, z.sy = sy ∧ z.all L = F ∧ ports L = ps ∧ Msd W w c z L en es xs
def MemTo (W w : World) (c : Cg) (sy : Nat) (F : List Nat) (ps : List Pt) (en : List En) (es : List Ent) (xs : List Int) (w' : World) : Prop := ∃ F', Mem W w' c sy F' ps en es xs ∧ Chg F w w' ∧ ∀ k ∈ F', k ∈ F ∨ w.heap.size ≤ k
theorem MemTo.of {W w w' : World} {c : Cg} {z z' : Lay} {L L' : List (Po × Pt)} {en : List En} {es : List Ent} {xs : List Int} (h : MTo W w c z L z' L' en es xs w') (hs : z'.sy = z.sy) {ps : List Pt} (hp : ports L' = ps) : MemTo W w c z.sy (z.all L) ps en es xs w' :=
  ⟨z'.all L', ⟨z', L', hs, rfl, hp, h.1⟩, h.2.1, h.2.2⟩
theorem MemTo.trans {W w w1 w2 : World} {c : Cg} {sy : Nat} {F F1 : List Nat} {ps ps2 : List Pt} {en en2 : List En} {es es2 : List Ent} {xs xs2 : List Int} (h1 : Mem W w1 c sy F1 ps en es xs) (h2 : Chg F w w1) (h3 : ∀ k ∈ F1, k ∈ F ∨ w.heap.size ≤ k) (h : MemTo W w1 c sy F1 ps2 en2 es2 xs2 w2) : MemTo W w c sy F ps2 en2 es2 xs2 w2 := by
  obtain ⟨F2, hm, hc, hk⟩ := h
  refine ⟨F2, hm, h2.trans' hc h3, fun k hk2 => ?_⟩
  rcases hk k hk2 with h4 | h4
  · exact h3 k h4
  · exact .inr (Nat.le_trans h2.size h4)
section
variable {W w w' : World} {c : Cg} {sy : Nat} {F : List Nat} {ps : List Pt} {en : List En} {es : List Ent} {xs : List Int} (hm : Mem W w c sy F ps en es xs)
include hm
theorem Mem.keep (hc : Chg [] w w') : Mem W w' c sy F ps en es xs := by
  obtain ⟨z, L, h1, h2, h3, h⟩ := hm
  exact ⟨z, L, h1, h2, h3, h.keep hc⟩
theorem Mem.keepL {l : List Nat} (hc : Chg l w w') (hl : ∀ k ∈ l, k ∉ F) (hw : ∀ k ∈ l, W.heap.size ≤ k) : Mem W w' c sy F ps en es xs := by
  obtain ⟨z, L, h1, rfl, h3, h⟩ := hm
  exact ⟨z, L, h1, rfl, h3, h.keepL hc hl hw⟩
theorem Mem.stay (hc : Chg [] w w') : MemTo W w c sy F ps en es xs w' := ⟨F, hm.keep hc, hc.mono (by simp), fun k hk => .inl hk⟩
theorem Mem.chg : Chg [] W w := by obtain ⟨z, L, _, _, _, h⟩ := hm; exact h.chg
theorem Mem.old : ∀ k ∈ F, k < w.heap.size := by obtain ⟨z, L, _, rfl, _, h⟩ := hm; exact h.old
theorem Mem.new : ∀ k ∈ F, W.heap.size ≤ k := by obtain ⟨z, L, _, rfl, _, h⟩ := hm; exact h.new
theorem Mem.cores : ps.length = c.co := by obtain ⟨z, L, _, _, rfl, h⟩ := hm; unfold ports; rw [List.length_map]; exact h.cores
theorem Mem.lines : en.length = c.li := by obtain ⟨z, L, _, _, _, h⟩ := hm; exact h.lines
theorem mload_ok (i : Nat) (li k : Int) (x : Pt) (hy : ps[i]? = some x) (hT : Tab W) (hl : inB li c.li = true) (hu : x.s.2 ≤ 1000000000) (hq : x.up.length < 1000) (hma : ∀ m ∈ (loadF c.se c.wa x.s li k).2.2.2, mg m = true) (h1 : (loadF c.se c.wa x.s li k).2.2.2.length ≤ 1) :
    Calls Tryz.prog 28 #[.pointer (some ⟨sy, 0, none⟩), .int .i64 i, .int .i64 li, .int .i64 k] w fun e w' => e = .returned (.tuple #[.int .u64 (loadF c.se c.wa x.s li k).2.1, .bool (loadF c.se c.wa x.s li k).2.2.1]) ∧ MemTo W w c sy F (ps.set i { x with s := (loadF c.se c.wa x.s li k).1, up := x.up ++ (loadF c.se c.wa x.s li k).2.2.2 }) en es xs w' := by
  obtain ⟨z, L, rfl, rfl, rfl, h⟩ := hm
  obtain ⟨p, hp⟩ := ports_of hy
  exact (zload_ok i li k p x w h hT hp hl hu hq hma h1).mono fun e w' ⟨he, p', M⟩ => ⟨he, MemTo.of M rfl (ports_set ..)⟩
theorem mstore_ok (i : Nat) (li k v : Int) (x : Pt) (hy : ps[i]? = some x) (hT : Tab W) (hl : inB li c.li = true) (hu : x.s.2 ≤ 1000000000) (hq : x.up.length < 1000) (hma : ∀ m ∈ (storeF c.se c.wa x.s li k v).2.2, mg m = true) (h1 : (storeF c.se c.wa x.s li k v).2.2.length ≤ 1) :
    Calls Tryz.prog 34 #[.pointer (some ⟨sy, 0, none⟩), .int .i64 i, .int .i64 li, .int .i64 k, .int .u64 v] w fun e w' => e = .returned (.bool (storeF c.se c.wa x.s li k v).2.1) ∧ MemTo W w c sy F (ps.set i { x with s := (storeF c.se c.wa x.s li k v).1, up := x.up ++ (storeF c.se c.wa x.s li k v).2.2 }) en es xs w' := by
  obtain ⟨z, L, rfl, rfl, rfl, h⟩ := hm
  obtain ⟨p, hp⟩ := ports_of hy
  exact (zstore_ok i li k v p x w h hT hp hl hu hq hma h1).mono fun e w' ⟨he, p', M⟩ => ⟨he, MemTo.of M rfl (ports_set ..)⟩
theorem mevict_ok (i : Nat) (li : Int) (x : Pt) (hy : ps[i]? = some x) (hT : Tab W) (hl : inB li c.li = true) (hu : x.s.2 ≤ 1000000000) (hq : x.up.length < 1000) (hma : ∀ m ∈ (evictF c.se c.wa x.s li).2.1, mg m = true) (h1 : (evictF c.se c.wa x.s li).2.1.length ≤ 1) :
    Calls Tryz.prog 32 #[.pointer (some ⟨sy, 0, none⟩), .int .i64 i, .int .i64 li] w fun e w' => e = .returned (.int .i64 (evictF c.se c.wa x.s li).2.2) ∧ MemTo W w c sy F (ps.set i { x with s := (evictF c.se c.wa x.s li).1, up := x.up ++ (evictF c.se c.wa x.s li).2.1 }) en es xs w' := by
  obtain ⟨z, L, rfl, rfl, rfl, h⟩ := hm
  obtain ⟨p, hp⟩ := ports_of hy
  exact (zevict_ok i li p x w h hT hp hl hu hq hma h1).mono fun e w' ⟨he, p', M⟩ => ⟨he, MemTo.of M rfl (ports_set ..)⟩
theorem mflush_4 (i : Nat) (li : Int) (x : Pt) (hy : ps[i]? = some x) (hT : Tab W) (hl : inB li c.li = true) (hq : x.up.length < 1000) (hma : mg (ms4 4 li false false) = true) :
    Calls Tryz.prog 30 #[.pointer (some ⟨sy, 0, none⟩), .int .i64 i, .int .i64 li, .int .i64 4] w fun e w' => e = .returned (.int .i64 0) ∧ MemTo W w c sy F (ps.set i { x with up := x.up ++ [ms4 4 li false false] }) en es xs w' := by
  obtain ⟨z, L, rfl, rfl, rfl, h⟩ := hm
  obtain ⟨p, hp⟩ := ports_of hy
  exact (zflush_4 i li p x w h hT hp hl hq hma).mono fun e w' ⟨he, p', M⟩ => ⟨he, MemTo.of M rfl (ports_set ..)⟩
theorem mflush_5 (i : Nat) (li : Int) (x : Pt) (hy : ps[i]? = some x) (hT : Tab W) (hl : inB li c.li = true) (hq : x.up.length < 1000) (hma : mg (ms4 5 li false false) = true) :
    Calls Tryz.prog 30 #[.pointer (some ⟨sy, 0, none⟩), .int .i64 i, .int .i64 li, .int .i64 5] w fun e w' => e = .returned (.int .i64 0) ∧ MemTo W w c sy F (ps.set i { x with up := x.up ++ [ms4 5 li false false] }) en es xs w' := by
  obtain ⟨z, L, rfl, rfl, rfl, h⟩ := hm
  obtain ⟨p, hp⟩ := ports_of hy
  exact (zflush_5 i li p x w h hT hp hl hq hma).mono fun e w' ⟨he, p', M⟩ => ⟨he, MemTo.of M rfl (ports_set ..)⟩
theorem mup_none (i : Nat) (x : Pt) (hy : ps[i]? = some x) (hx : x.up = []) :
    Calls Tryz.prog 35 #[.pointer (some ⟨sy, 0, none⟩), .int .i64 i] w fun e w' => e = .returned (.int .i64 14) ∧ Chg [] w w' := by
  obtain ⟨z, L, rfl, rfl, rfl, h⟩ := hm
  obtain ⟨p, hp⟩ := ports_of hy
  exact zup_none i p x w h hp hx
theorem mup_go (i k : Nat) (x : Pt) (hy : ps[i]? = some x) (m : Ms) (rest : List Ms) (e e' : En) (l : List Int) (hl : l.length = 8) (ds : List Sd) (v : Int) (hT : Tab W) (hx : x.up = m :: rest) (hlu : x.up.length ≤ 1000) (hk : m.li = (k : Int)) (he : en[k]? = some e) (hX : ln (over xs es) k = l)
    (hr : askE (hereE e l hl) i m = ((e', ds), v)) (hto : ∀ d ∈ ds, 0 ≤ d.to ∧ d.to < c.co ∧ mg d.m = true) (M : Nat) (hM : ∀ x ∈ ps, x.dn.length ≤ M) (hMn : M + ds.length ≤ 1000) :
    Calls Tryz.prog 35 #[.pointer (some ⟨sy, 0, none⟩), .int .i64 i] w fun r w' => (v ≠ 0 ∧ r = .returned (.int .i64 v) ∧ MemTo W w c sy F ps en es xs w') ∨ (v = 0 ∧ r = .returned (.int .i64 0) ∧ MemTo W w c sy F (sendP (ps.set i { x with up := rest }) ds) (en.set k e') es xs w') := by
  obtain ⟨z, L, rfl, rfl, rfl, h⟩ := hm
  obtain ⟨p, hp⟩ := ports_of hy
  refine (zup_go i k p x m rest e e' l hl ds v w h hT hp hx hlu hk he hX hr hto M hM hMn).mono fun r w' hr2 => ?_
  rcases hr2 with ⟨h1, h2, be', M1⟩ | ⟨h1, h2, be', ks', L', M1, hp2⟩
  · exact .inl ⟨h1, h2, MemTo.of M1 rfl rfl⟩
  · exact .inr ⟨h1, h2, MemTo.of M1 rfl hp2⟩
theorem manswer_none (i : Nat) (x : Pt) (hy : ps[i]? = some x) (hx : x.an = []) :
    Calls Tryz.prog 37 #[.pointer (some ⟨sy, 0, none⟩), .int .i64 i] w fun e w' => e = .returned (.int .i64 14) ∧ MemTo W w c sy F (ps.set i { x with an := [] }) en es xs w' := by
  obtain ⟨z, L, rfl, rfl, rfl, h⟩ := hm
  obtain ⟨p, hp⟩ := ports_of hy
  exact (zanswer_none i p x w h hp hx).mono fun e w' ⟨he, p', M⟩ => ⟨he, MemTo.of M rfl (ports_set ..)⟩
theorem manswer_go (i k : Nat) (x : Pt) (hy : ps[i]? = some x) (m : Ms) (rest : List Ms) (e e' : En) (ds : List Sd) (v : Int) (hT : Tab W) (hx : x.an = m :: rest) (hlu : x.an.length ≤ 1000) (hk : m.li = (k : Int)) (he : en[k]? = some e)
    (hr : ansE e i m = ((e', ds), v)) (hto : ∀ d ∈ ds, 0 ≤ d.to ∧ d.to < c.co ∧ mg d.m = true) (M : Nat) (hM : ∀ x ∈ ps, x.dn.length ≤ M) (hMn : M + ds.length ≤ 1000) :
    Calls Tryz.prog 37 #[.pointer (some ⟨sy, 0, none⟩), .int .i64 i] w fun r w' => (v ≠ 0 ∧ r = .returned (.int .i64 v) ∧ MemTo W w c sy F (ps.set i { x with an := rest }) en es xs w') ∨ (v = 0 ∧ r = .returned (.int .i64 0) ∧ MemTo W w c sy F (sendP (ps.set i { x with an := rest }) ds) (en.set k e') es xs w') := by
  obtain ⟨z, L, rfl, rfl, rfl, h⟩ := hm
  obtain ⟨p, hp⟩ := ports_of hy
  refine (zanswer_go i k p x m rest e e' ds v w h hT hp hx hlu hk he hr hto M hM hMn).mono fun r w' hr2 => ?_
  rcases hr2 with ⟨h1, h2, p', M1⟩ | ⟨h1, h2, ks', L', M1, hp2⟩
  · exact .inl ⟨h1, h2, MemTo.of M1 rfl (ports_set ..)⟩
  · exact .inr ⟨h1, h2, MemTo.of M1 rfl hp2⟩
theorem mhear_none (i : Nat) (x : Pt) (hy : ps[i]? = some x) (hx : x.dn = []) :
    Calls Tryz.prog 36 #[.pointer (some ⟨sy, 0, none⟩), .int .i64 i] w fun e w' => e = .returned (.tuple #[.agg (msc msZ), .int .i64 14]) ∧ MemTo W w c sy F (ps.set i { x with dn := [] }) en es xs w' := by
  obtain ⟨z, L, rfl, rfl, rfl, h⟩ := hm
  obtain ⟨p, hp⟩ := ports_of hy
  exact (zhear_none i p x w h hp hx).mono fun e w' ⟨he, p', M⟩ => ⟨he, MemTo.of M rfl (ports_set ..)⟩
theorem mhear_go (i : Nat) (x : Pt) (hy : ps[i]? = some x) (m : Ms) (rest : List Ms) (s' : Sta) (av : List Ms) (v : Int) (hT : Tabs W) (hx : x.dn = m :: rest) (hlu : x.dn.length ≤ 1000) (hu : x.s.2 ≤ 1000000000) (hr : hearF c.se c.wa x.s m = (s', (av, v))) (ha1 : av.length ≤ 1) (hla : x.an.length < 1000) (hma : ∀ a ∈ av, mg a = true) :
    Calls Tryz.prog 36 #[.pointer (some ⟨sy, 0, none⟩), .int .i64 i] w fun e w' => (v ≠ 0 ∧ e = .returned (.tuple #[.agg (msc msZ), .int .i64 v]) ∧ MemTo W w c sy F (ps.set i { x with s := s', dn := rest }) en es xs w') ∨ (v = 0 ∧ e = .returned (.tuple #[.agg (msc m), .int .i64 0]) ∧ MemTo W w c sy F (ps.set i { x with s := s', an := x.an ++ av, dn := rest }) en es xs w') := by
  obtain ⟨z, L, rfl, rfl, rfl, h⟩ := hm
  obtain ⟨p, hp⟩ := ports_of hy
  refine (zhear_go i p x m rest s' av v w h hT hp hx hlu hu hr ha1 hla hma).mono fun r w' hr2 => ?_
  rcases hr2 with ⟨h1, h2, p', M1⟩ | ⟨h1, h2, ks', p', M1⟩
  · exact .inl ⟨h1, h2, MemTo.of M1 rfl (ports_set ..)⟩
  · exact .inr ⟨h1, h2, MemTo.of M1 rfl (ports_set ..)⟩
theorem mdrop_kept (i : Nat) (e : En) (he : en[i]? = some e) (hd : keptE e = true) :
    Calls Tryz.prog 31 #[.pointer (some ⟨sy, 0, none⟩), .int .i64 i] w fun r w' => r = .returned (.int .i64 16) ∧ Chg [] w w' := by
  obtain ⟨z, L, rfl, rfl, rfl, h⟩ := hm
  exact zdrop_kept i e w h he hd
theorem mdrop_go (i : Nat) (e : En) (hT : Tab W) (he : en[i]? = some e) (hd : keptE e = false) (v : Int) (hv : saveV c es i e = v) (es' : List Ent) (hs : saveEs c es i e = es') (M : Nat) (hM : ∀ x ∈ ps, x.dn.length ≤ M) (hMn : M ≤ 1000) :
    Calls Tryz.prog 31 #[.pointer (some ⟨sy, 0, none⟩), .int .i64 i] w fun r w' => (v ≠ 0 ∧ r = .returned (.int .i64 v) ∧ MemTo W w c sy F ps en es' xs w') ∨ (v = 0 ∧ r = .returned (.int .i64 0) ∧ MemTo W w c sy F ps (en.set i enE) es' xs w') := by
  obtain ⟨z, L, rfl, rfl, rfl, h⟩ := hm
  refine (zdrop_go i e w h hT he hd v hv es' hs M hM hMn).mono fun r w' hr2 => ?_
  rcases hr2 with ⟨h1, h2, be', M1⟩ | ⟨h1, h2, be', ks', L', M1, hp2⟩
  · exact .inl ⟨h1, h2, MemTo.of M1 rfl rfl⟩
  · exact .inr ⟨h1, h2, MemTo.of M1 rfl hp2⟩
theorem mdrain_ok (k : Int) (hk : inB k c.li = true) :
    Calls Tryz.prog 51 #[.pointer (some ⟨sy, 0, none⟩), .int .i64 k] w fun e w' => e = .returned (.int .i64 (drainVal es k)) ∧ MemTo W w c sy F ps en (drainEs es k) (drainXs xs es k) w' := by
  obtain ⟨z, L, rfl, rfl, rfl, h⟩ := hm
  exact (zdrain_ok k w h hk).mono fun e w' ⟨he, be', ks', M⟩ => ⟨he, MemTo.of M rfl rfl⟩
theorem mentry_ok (i : Nat) (e : En) (he : en[i]? = some e) :
    Calls Tryz.prog 20 #[.pointer (some ⟨sy, 0, none⟩), .int .i64 i] w fun r w' => r = .returned (.agg (ec e)) ∧ Chg [] w w' := by
  obtain ⟨z, L, rfl, rfl, rfl, h⟩ := hm
  exact zentry_ok i e w h he
theorem mslots_ok (i : Nat) (x : Pt) (hy : ps[i]? = some x) : Calls Tryz.prog 19 #[.pointer (some ⟨sy, 0, none⟩), .int .i64 i] w (SlotsTold w (live x.s.1)) := by
  obtain ⟨z, L, rfl, rfl, rfl, h⟩ := hm
  obtain ⟨p, hp⟩ := ports_of hy
  exact zslots_ok i p x w h hp
theorem mwaiting_ok : Calls Tryz.prog 23 #[.pointer (some ⟨sy, 0, none⟩)] w (WTold w (poss es)) := by
  obtain ⟨z, L, rfl, rfl, rfl, h⟩ := hm
  exact zwaiting_ok w h
theorem mmemory_ok : Calls Tryz.prog 18 #[.pointer (some ⟨sy, 0, none⟩)] w (OwnLines w c.li (over xs es)) := by
  obtain ⟨z, L, rfl, rfl, rfl, h⟩ := hm
  exact zmemory_ok w h
theorem mload_no (k li : Int) (wd : Int) (hk : inB k c.co = false) : Calls Tryz.prog 28 #[.pointer (some ⟨sy, 0, none⟩), .int .i64 k, .int .i64 li, .int .i64 wd] w fun e w' => e = .returned (.tuple #[.int .u64 0, .bool false]) ∧ w = w' := by
  obtain ⟨z, L, rfl, rfl, rfl, h⟩ := hm
  exact zload_no k li wd w h hk
theorem mload_off (i : Nat) (li : Int) (wd : Int) (hi : i < c.co) (hl : inB li c.li = false) : Calls Tryz.prog 28 #[.pointer (some ⟨sy, 0, none⟩), .int .i64 i, .int .i64 li, .int .i64 wd] w fun e w' => e = .returned (.tuple #[.int .u64 0, .bool false]) ∧ w = w' := by
  obtain ⟨z, L, rfl, rfl, rfl, h⟩ := hm
  exact zload_off i li wd w h hi hl
theorem mstore_no (k li : Int) (wd v : Int) (hk : inB k c.co = false) : Calls Tryz.prog 34 #[.pointer (some ⟨sy, 0, none⟩), .int .i64 k, .int .i64 li, .int .i64 wd, .int .u64 v] w fun e w' => e = .returned (.bool false) ∧ w = w' := by
  obtain ⟨z, L, rfl, rfl, rfl, h⟩ := hm
  exact zstore_no k li wd v w h hk
theorem mstore_off (i : Nat) (li : Int) (wd v : Int) (hi : i < c.co) (hl : inB li c.li = false) : Calls Tryz.prog 34 #[.pointer (some ⟨sy, 0, none⟩), .int .i64 i, .int .i64 li, .int .i64 wd, .int .u64 v] w fun e w' => e = .returned (.bool false) ∧ w = w' := by
  obtain ⟨z, L, rfl, rfl, rfl, h⟩ := hm
  exact zstore_off i li wd v w h hi hl
theorem mevict_no (k li : Int)  (hk : inB k c.co = false) : Calls Tryz.prog 32 #[.pointer (some ⟨sy, 0, none⟩), .int .i64 k, .int .i64 li] w fun e w' => e = .returned (.int .i64 1) ∧ w = w' := by
  obtain ⟨z, L, rfl, rfl, rfl, h⟩ := hm
  exact zevict_no k li  w h hk
theorem mevict_off (i : Nat) (li : Int)  (hi : i < c.co) (hl : inB li c.li = false) : Calls Tryz.prog 32 #[.pointer (some ⟨sy, 0, none⟩), .int .i64 i, .int .i64 li] w fun e w' => e = .returned (.int .i64 1) ∧ w = w' := by
  obtain ⟨z, L, rfl, rfl, rfl, h⟩ := hm
  exact zevict_off i li  w h hi hl
theorem mflush_no (k li : Int) (kd : Int) (hk : inB k c.co = false) : Calls Tryz.prog 30 #[.pointer (some ⟨sy, 0, none⟩), .int .i64 k, .int .i64 li, .int .i64 kd] w fun e w' => e = .returned (.int .i64 1) ∧ w = w' := by
  obtain ⟨z, L, rfl, rfl, rfl, h⟩ := hm
  exact zflush_no k li kd w h hk
theorem mflush_off (i : Nat) (li : Int) (kd : Int) (hi : i < c.co) (hl : inB li c.li = false) : Calls Tryz.prog 30 #[.pointer (some ⟨sy, 0, none⟩), .int .i64 i, .int .i64 li, .int .i64 kd] w fun e w' => e = .returned (.int .i64 1) ∧ w = w' := by
  obtain ⟨z, L, rfl, rfl, rfl, h⟩ := hm
  exact zflush_off i li kd w h hi hl
theorem mflush_kind (i : Nat) (li kd : Int) (hi : i < c.co) (hl : inB li c.li = true) (h4 : kd ≠ 4) (h5 : kd ≠ 5) : Calls Tryz.prog 30 #[.pointer (some ⟨sy, 0, none⟩), .int .i64 i, .int .i64 li, .int .i64 kd] w fun e w' => e = .returned (.int .i64 1) ∧ w = w' := by
  obtain ⟨z, L, rfl, rfl, rfl, h⟩ := hm
  exact zflush_kind i li kd w h hi hl h4 h5
theorem mup_no (k : Int) (hk : inB k c.co = false) : Calls Tryz.prog 35 #[.pointer (some ⟨sy, 0, none⟩), .int .i64 k] w fun e w' => e = .returned (.int .i64 1) ∧ w = w' := by
  obtain ⟨z, L, rfl, rfl, rfl, h⟩ := hm
  exact zup_no k w h hk
theorem manswer_no (k : Int) (hk : inB k c.co = false) : Calls Tryz.prog 37 #[.pointer (some ⟨sy, 0, none⟩), .int .i64 k] w fun e w' => e = .returned (.int .i64 1) ∧ w = w' := by
  obtain ⟨z, L, rfl, rfl, rfl, h⟩ := hm
  exact zanswer_no k w h hk
theorem mhear_no (k : Int) (hk : inB k c.co = false) : Calls Tryz.prog 36 #[.pointer (some ⟨sy, 0, none⟩), .int .i64 k] w fun e w' => e = .returned (.tuple #[.agg (msc msZ), .int .i64 1]) ∧ Chg [] w w' := by
  obtain ⟨z, L, rfl, rfl, rfl, h⟩ := hm
  exact zhear_no k w h hk
theorem mdrop_off (k : Int) (hk : inB k c.li = false) : Calls Tryz.prog 31 #[.pointer (some ⟨sy, 0, none⟩), .int .i64 k] w fun e w' => e = .returned (.int .i64 1) ∧ w = w' := by
  obtain ⟨z, L, rfl, rfl, rfl, h⟩ := hm
  exact zdrop_off k w h hk
theorem mdrain_off (k : Int) (hk : inB k c.li = false) : Calls Tryz.prog 51 #[.pointer (some ⟨sy, 0, none⟩), .int .i64 k] w fun e w' => e = .returned (.int .i64 1) ∧ w = w' := by
  obtain ⟨z, L, rfl, rfl, rfl, h⟩ := hm
  exact zdrain_off k w h hk
end
/-- A system that was made. -/
theorem mnew_none (W w : World) (c : Cg) (hc : c.Ok) (hW : Chg [] W w) (A : Option Addr) (nc : Nat) : Calls Tryz.prog 12 #[.agg c.cells, .slice A 0 nc] w fun e w' => ∃ sy F, e = .returned (.tuple #[.pointer (some ⟨sy, 0, none⟩), .int .i64 0]) ∧ Mem W w' c sy F (List.replicate c.co (pt0 c)) (List.replicate c.li enE) [] (List.replicate (c.li * 8) 0) ∧ Chg [] w w' ∧ ∀ k ∈ F, w.heap.size ≤ k :=
  (znew_none W w c hc hW A nc).mono fun e w' ⟨z, L, he, hm, hp, hc, hk⟩ => ⟨z.sy, z.all L, he, ⟨z, L, rfl, rfl, hp, hm⟩, hc, hk⟩
end Go.Proofs.YtadeoflkppiflaaGreatDoor
end
section
namespace Go.Proofs.YtadeoflkppiflaaGreatDoor
open Go.RowKit
set_option linter.unusedVariables false
set_option maxHeartbeats 1000000
set_option maxRecDepth 100000
attribute [local go_sem ↓] append_appS copy_copS clear_clrS make_mkS cell_row frozen_row loadLine storeLine loadSlot storeSlot heap_drew heap_drewN heap_alloc heap_past heap_setCell heap_putRow vs_get slc_st slc_li slc_us slice_slS loadMsg storeMsg loadHas storeHas msc_kd msc_li msc_di msc_ke
attribute [local go_sem] rowCell_some rowFrozen_some rowHas_some rowIn_some rowPart_full rowPart_lit rowPut_full rowPut_lit rowSet_some size_putRow vs_size vs_one wideLine wideSlot run_loadS run_storeS run_appS run_copS run_clrS run_mkS loadW_at storeW_at fit_all fit_le one_int one_bool one_pointer one_slice allOne_list putRow_new ne_size1 ne_size2 ne_size3 ne_size4 zero8_length lines_nil line_eq lit8 slc_size slc_one slc_part slc_in fold_slt fold_slc slc_set_us wideMsg wideHas run_slS msc_size msc_one msc_part msc_in fold_msc msc_putDi msc_putKe msc_putX msc_has ms4_lit
attribute [local simp ↓] heap_drew heap_drewN heap_alloc heap_past heap_setCell heap_putRow
attribute [local simp] rowCell_some rowFrozen_some rowHas_some rowIn_some rowPart_full rowPart_lit rowPut_full rowPut_lit rowSet_some size_putRow vs_size fit_all putRow_new ne_size1 ne_size2 ne_size3 ne_size4 zero8_length slc_size msc_size msc_putDi msc_putKe msc_putX msc_has fit_le
attribute [local go_sem ↓] ec_he ec_di ec_ow ec_sh ec_bu ec_by ec_wa sc_to
attribute [local go_sem] mi_and mi_or mi_not mi_beq0 mi_bne0 ec_size ec_one ec_part ec_in ec_has ec_setDi ec_setOw ec_setSh ec_setBu ec_setBy ec_setWa ec_setSh0 ec_setWa0 ec_putM sc_size sc_one sc_part sc_in
attribute [local simp] ec_size sc_size ec_setDi ec_setOw ec_setSh ec_setBu ec_setBy ec_setWa ec_setSh0 ec_setWa0 ec_putM
attribute [local go_sem ↓] loadEn storeEn loadSd storeSd en_z0
attribute [local go_sem] wideEn wideSd fold_sc size11 putRow_newB putRow_newC ms5_lit
attribute [local simp] en_z0 putRow_newB putRow_newC fit_le ec_has



attribute [local go_sem ↓] mlitZ zenc_po zenc_en zenc_q
attribute [local simp] mlitZ

attribute [local go_sem ↓] loadCg cg_li cg_vo cg_qu
attribute [local go_sem] wideCg cg_size cg_one cg_part
section
variable {W w : World} {c : Cg} {sy : Nat} {F : List Nat} {ps : List Pt} {en : List En} {es : List Ent} {xs : List Int} (hm : Mem W w c sy F ps en es xs)
include hm
theorem mup_yes (i k : Nat) (x : Pt) (hy : ps[i]? = some x) (m : Ms) (rest : List Ms) (e e' : En) (l : List Int) (hl : l.length = 8) (ds : List Sd) (hT : Tab W) (hx : x.up = m :: rest) (hlu : x.up.length ≤ 1000) (hk : m.li = (k : Int)) (he : en[k]? = some e) (hX : ln (over xs es) k = l)
    (hr : askE (hereE e l hl) i m = ((e', ds), 0)) (hto : ∀ d ∈ ds, 0 ≤ d.to ∧ d.to < c.co ∧ mg d.m = true) (M : Nat) (hM : ∀ x ∈ ps, x.dn.length ≤ M) (hMn : M + ds.length ≤ 1000) :
    Calls Tryz.prog 35 #[.pointer (some ⟨sy, 0, none⟩), .int .i64 i] w fun r w' => r = .returned (.int .i64 0) ∧ MemTo W w c sy F (sendP (ps.set i { x with up := rest }) ds) (en.set k e') es xs w' :=
  (mup_go hm i k x hy m rest e e' l hl ds 0 hT hx hlu hk he hX hr hto M hM hMn).mono fun r w' h => h.elim (fun h => absurd rfl h.1) (fun h => h.2)
theorem manswer_yes (i k : Nat) (x : Pt) (hy : ps[i]? = some x) (m : Ms) (rest : List Ms) (e e' : En) (ds : List Sd) (hT : Tab W) (hx : x.an = m :: rest) (hlu : x.an.length ≤ 1000) (hk : m.li = (k : Int)) (he : en[k]? = some e)
    (hr : ansE e i m = ((e', ds), 0)) (hto : ∀ d ∈ ds, 0 ≤ d.to ∧ d.to < c.co ∧ mg d.m = true) (M : Nat) (hM : ∀ x ∈ ps, x.dn.length ≤ M) (hMn : M + ds.length ≤ 1000) :
    Calls Tryz.prog 37 #[.pointer (some ⟨sy, 0, none⟩), .int .i64 i] w fun r w' => r = .returned (.int .i64 0) ∧ MemTo W w c sy F (sendP (ps.set i { x with an := rest }) ds) (en.set k e') es xs w' :=
  (manswer_go hm i k x hy m rest e e' ds 0 hT hx hlu hk he hr hto M hM hMn).mono fun r w' h => h.elim (fun h => absurd rfl h.1) (fun h => h.2)
theorem mhear_yes (i : Nat) (x : Pt) (hy : ps[i]? = some x) (m : Ms) (rest : List Ms) (s' : Sta) (av : List Ms) (hT : Tabs W) (hx : x.dn = m :: rest) (hlu : x.dn.length ≤ 1000) (hu : x.s.2 ≤ 1000000000) (hr : hearF c.se c.wa x.s m = (s', (av, 0))) (ha1 : av.length ≤ 1) (hla : x.an.length < 1000) (hma : ∀ a ∈ av, mg a = true) :
    Calls Tryz.prog 36 #[.pointer (some ⟨sy, 0, none⟩), .int .i64 i] w fun r w' => r = .returned (.tuple #[.agg (msc m), .int .i64 0]) ∧ MemTo W w c sy F (ps.set i { x with s := s', an := x.an ++ av, dn := rest }) en es xs w' :=
  (mhear_go hm i x hy m rest s' av 0 hT hx hlu hu hr ha1 hla hma).mono fun r w' h => h.elim (fun h => absurd rfl h.1) (fun h => h.2)
end
/-! ### The states of what is waked -/
def kc : Cg := ⟨2, 6, 1, 1, 2, 2, 2⟩
theorem kc_ok : kc.Ok := ⟨by decide, by decide, by decide, by decide, by decide, by decide, by decide, by decide, by decide, by decide, by decide⟩
def kx : List Int := List.replicate (kc.li * 8) 0
def ka1 : Sta := ([⟨5, 3, [0, 0, 0, 0, 0, 0, 0, 0], 1, rfl⟩, sltZ], 1)
def ka2 : Sta := ([⟨2, 3, [0, 0, 0, 0, 0, 0, 0, 0], 2, rfl⟩, sltZ], 2)
def ka3 : Sta := ([⟨3, 3, [0, 7, 0, 0, 0, 0, 0, 0], 3, rfl⟩, sltZ], 3)
def ka4 : Sta := ([⟨1, 3, [0, 7, 0, 0, 0, 0, 0, 0], 4, rfl⟩, sltZ], 4)
def kb1 : Sta := ([⟨4, 3, [0, 0, 0, 0, 0, 0, 0, 0], 1, rfl⟩, sltZ], 1)
def kb2 : Sta := ([⟨1, 3, [0, 7, 0, 0, 0, 0, 0, 0], 2, rfl⟩, sltZ], 2)
def kb3 : Sta := ([⟨1, 3, [0, 7, 0, 0, 0, 0, 0, 0], 3, rfl⟩, sltZ], 3)
def kM : Ms := ms4 2 3 false false
def kS : Ms := ms4 1 3 false false
def kDM : Ms := ms5 10 3 [0, 0, 0, 0, 0, 0, 0, 0] rfl
def kDn : Ms := ms4 13 3 false false
def kAk : Ms := ⟨7, 3, true, true, [0, 7, 0, 0, 0, 0, 0, 0], rfl⟩
def kDS : Ms := ms5 8 3 [0, 7, 0, 0, 0, 0, 0, 0] rfl
def ke1 : En := ⟨true, false, [0, 0, 0, 0, 0, 0, 0, 0], 0, 0#8, 0, 0, 0#8, rfl⟩
def ke2 : En := ⟨true, false, [0, 0, 0, 0, 0, 0, 0, 0], 0, 0#8, 1, 1, 1#8, rfl⟩
def ke3 : En := ⟨true, true, [0, 7, 0, 0, 0, 0, 0, 0], -1, 3#8, 0, 0, 0#8, rfl⟩
theorem kv1 : storeF kc.se kc.wa (pt0 kc).s 3 1 7 = (ka1, (false, [kM])) := by rfl
theorem kv2 : askE (hereE enE [0, 0, 0, 0, 0, 0, 0, 0] rfl) 0 kM = ((ke1, [⟨0, kDM⟩]), 0) := by rfl
theorem kv3 : hearF kc.se kc.wa ka1 kDM = (ka2, ([], 0)) := by rfl
theorem kv4 : storeF kc.se kc.wa ka2 3 1 7 = (ka3, (true, [])) := by rfl
theorem kv5 : loadF kc.se kc.wa (pt0 kc).s 3 1 = (kb1, (0, false, [kS])) := by rfl
theorem kv6 : askE (hereE ke1 [0, 0, 0, 0, 0, 0, 0, 0] rfl) 1 kS = ((ke2, [⟨0, kDn⟩]), 0) := by rfl
theorem kv7 : hearF kc.se kc.wa ka3 kDn = (ka4, ([kAk], 0)) := by rfl
theorem kv8 : ansE ke2 0 kAk = ((ke3, [⟨1, kDS⟩]), 0) := by rfl
theorem kv9 : hearF kc.se kc.wa kb1 kDS = (kb2, ([], 0)) := by rfl
theorem kv10 : loadF kc.se kc.wa kb2 3 1 = (kb3, (7, true, [])) := by rfl

theorem results_cg {fn : Func} {p : Tmp} (h : fn.results = #[.cell p 23]) (tmps : Array Value) (w : World) (b : Nat) (x : Cg) (fr : Nat × Nat)
    (hp : tmps.getD p undef = .pointer (some ⟨b, 0, none⟩)) (hb : w.heap[b]? = some (.cells x.cells 23 fr)) : (results fn tmps).run Tryz.prog w = .ok (.agg x.cells) w := by
  have hp' : tmps[p]?.getD undef = .pointer (some ⟨b, 0, none⟩) := by simpa using hp
  have := run_loadVar_row (P := Tryz.prog) w b 23 23 x.cells fr _ hb Tryz.underlying23 rfl (by rw [cg_size]; kernel_rfl)
  simp [results, h, hp', asAddr, this]
def cgZ : Cg := ⟨0, 0, 0, 0, 0, 0, 0⟩
theorem kc_lit : (#[.int .i64 2, .int .i64 6, .int .i64 1, .int .i64 1, .int .i64 2, .int .i64 2, .int .i64 2] : Array Value) = kc.cells := rfl
theorem storeCg (x y : Value) : Instr.storeAt 23 x y = storeS 23 7 x y := rfl
attribute [local go_sem ↓] storeCg
theorem kplain (w : World) : Calls Tryz.prog 33 #[] w fun e w' => e = .returned (.agg kc.cells) ∧ Chg [] w w' := by
  go_enter Tryz.func33, Tryz.ntmps33
  try dsimp only [List.append]
  go_wp2_with fail
  refine bodyPost_ret (v := .agg kc.cells) ?_ (by rfl) ?_
  · exact results_cg (by rfl) _ _ w.heap.size kc (0, 0) (by rfl) (by rw [← kc_lit]; simp)
  · exact ⟨rfl, by (repeat' (first | with_reducible exact Chg.refl _ _ | with_reducible assumption | with_reducible refine Chg.drew ?_ | with_reducible refine Chg.drewN ?_ _ | with_reducible refine Chg.alloc ?_ _ | with_reducible refine Chg.putRow ?_ _ _ _ (.inr ?_) | with_reducible refine Chg.setCell ?_ _ _ _ (.inr ?_)  | (show _ ≤ _; first | exact Nat.le_refl _ | omega | (simp; done))))⟩
theorem enc_part (z : Lay) (c : Cg) (t : TypeId) (f : Nat × Nat) : rowPart (some (.cells (z.enc c).toArray t f)) 0 7 = c.cells := by
  rw [rowPart_some]; rfl
theorem enc_in (z : Lay) (c : Cg) (t : TypeId) (f : Nat × Nat) : rowIn (some (.cells (z.enc c).toArray t f)) 0 7 = true := by
  rw [rowIn_some]
  exact decide_eq_true (show 0 + 7 ≤ (z.enc c).toArray.size by simp [Lay.enc, Cg.enc])
theorem zconfig_ok {W w : World} {c : Cg} {z : Lay} {L : List (Po × Pt)} {en : List En} {es : List Ent} {xs : List Int} (h : Msd W w c z L en es xs) : Calls Tryz.prog 25 #[.pointer (some ⟨z.sy, 0, none⟩)] w fun e w' => e = .returned (.agg c.cells) ∧ Chg [] w w' := by
  have rS := h.sys
  have oS := old rS
  have p0 := fun t f => enc_part z c t f
  have p1 := fun t f => enc_in z c t f
  clear h
  go_enter Tryz.func25, Tryz.ntmps25
  try dsimp only [List.append]
  go_wp2_with fail
  refine bodyPost_ret (v := .agg c.cells) ?_ (by rfl) ?_
  · exact results_cg (by rfl) _ _ w.heap.size c (0, 0) (by rfl) (by rw [heap_putRow _ _ _ _ _ (by rw [new_blk]; rfl), if_pos rfl, new_blk]; exact rowPut_full _ _ _ _ (by rw [cg_size]; rfl))
  · exact ⟨rfl, by (repeat' (first | with_reducible exact Chg.refl _ _ | with_reducible assumption | with_reducible refine Chg.drew ?_ | with_reducible refine Chg.drewN ?_ _ | with_reducible refine Chg.alloc ?_ _ | with_reducible refine Chg.putRow ?_ _ _ _ (.inr ?_) | with_reducible refine Chg.setCell ?_ _ _ _ (.inr ?_)  | (show _ ≤ _; first | exact Nat.le_refl _ | omega | (simp; done))))⟩
theorem mconfig_ok {W w : World} {c : Cg} {sy : Nat} {F : List Nat} {ps : List Pt} {en : List En} {es : List Ent} {xs : List Int} (hm : Mem W w c sy F ps en es xs) : Calls Tryz.prog 25 #[.pointer (some ⟨sy, 0, none⟩)] w fun e w' => e = .returned (.agg c.cells) ∧ Chg [] w w' := by
  obtain ⟨z, L, rfl, rfl, rfl, h⟩ := hm
  exact zconfig_ok h
theorem kfield_sh (W : World) : (Instr.field 56 (.agg (ec ke3)) 4).run Tryz.prog W = .ok (.int .u8 3) W := by kernel_rfl
theorem kfield_co (W : World) : (Instr.field 23 (.agg kc.cells) 0).run Tryz.prog W = .ok (.int .i64 2) W := by kernel_rfl
attribute [local go_sem ↓] kfield_sh kfield_co

def kf0 : List En := List.replicate kc.li enE
def kf1 : List En := kf0.set 3 ke1
def kf2 : List En := kf1.set 3 ke2
def kf3 : List En := kf2.set 3 ke3
def kp0 : List Pt := [pt0 kc, pt0 kc]
def kp1 : List Pt := [⟨ka1, [kM], [], []⟩, pt0 kc]
def kp2 : List Pt := [⟨ka1, [], [], [kDM]⟩, pt0 kc]
def kp3 : List Pt := [⟨ka2, [], [], []⟩, pt0 kc]
def kp4 : List Pt := [⟨ka3, [], [], []⟩, pt0 kc]
def kp5 : List Pt := [⟨ka3, [], [], []⟩, ⟨kb1, [kS], [], []⟩]
def kp6 : List Pt := [⟨ka3, [], [], [kDn]⟩, ⟨kb1, [], [], []⟩]
def kp7 : List Pt := [⟨ka4, [], [kAk], []⟩, ⟨kb1, [], [], []⟩]
def kp8 : List Pt := [⟨ka4, [], [], []⟩, ⟨kb1, [], [], [kDS]⟩]
def kp9 : List Pt := [⟨ka4, [], [], []⟩, ⟨kb2, [], [], []⟩]
def kp10 : List Pt := [⟨ka4, [], [], []⟩, ⟨kb3, [], [], []⟩]
set_option maxHeartbeats 4000000 in
theorem mwakes (W : World) (hT : Tabs W) : Calls Tryz.prog 11 #[] W fun e w' => e = .returned (.bool true) ∧ Chg [] W w' := by
  have HT := Lib.hid hT
  clear hT
  go_enter Tryz.func11, Tryz.ntmps11
  try dsimp only [List.append]
  go_wp2_with fail
  refine (kplain W).mono ?_
  rintro e w0 ⟨rfl, c0⟩
  have C0 := Lib.hid c0
  clear c0
  go_wp2_with fail
  refine (mnew_none W w0 kc kc_ok C0.out none 0).mono ?_
  rintro e w1 ⟨sy, F0, rfl, hm, hc, hk⟩
  have M0 := Lib.hid (show Mem W w1 kc sy F0 kp0 kf0 [] kx from hm)
  clear hm hc hk
  have hop := mstore_ok M0.out 0 3 1 7 ((pt0 kc) : Pt) rfl HT.out.1 (by decide) (by decide) (by decide) (by rw [kv1]; decide) (by rw [kv1]; decide)
  rw [kv1] at hop
  have HO := Lib.hid hop
  clear hop
  go_wp2_with fail
  refine HO.out.mono ?_
  clear HO
  rintro e w2 ⟨rfl, F1, hm, hc, hk⟩
  have M1 := Lib.hid (show Mem W w2 kc sy F1 kp1 kf0 [] kx from hm)
  clear hm hc hk M0
  have hop := mup_yes M1.out 0 3 ((⟨ka1, [kM], [], []⟩) : Pt) rfl kM [] enE ke1 [0, 0, 0, 0, 0, 0, 0, 0] rfl [⟨0, kDM⟩] HT.out.1 rfl (by decide) rfl rfl rfl kv2 (by decide) 1 (by decide) (by decide)
  have HO := Lib.hid hop
  clear hop
  go_wp2_with fail
  refine HO.out.mono ?_
  clear HO
  rintro e w3 ⟨rfl, F2, hm, hc, hk⟩
  have M2 := Lib.hid (show Mem W w3 kc sy F2 kp2 kf1 [] kx from hm)
  clear hm hc hk M1
  have hop := mhear_yes M2.out 0 ((⟨ka1, [], [], [kDM]⟩) : Pt) rfl kDM [] ka2 [] HT.out rfl (by decide) (by decide) kv3 (by decide) (by decide) (by decide)
  have HO := Lib.hid hop
  clear hop
  go_wp2_with fail
  refine HO.out.mono ?_
  clear HO
  rintro e w4 ⟨rfl, F3, hm, hc, hk⟩
  have M3 := Lib.hid (show Mem W w4 kc sy F3 kp3 kf1 [] kx from hm)
  clear hm hc hk M2
  replace M3 := Lib.hid (M3.out.keep ((Chg.refl [] w4).alloc (.cells (msc kDM) 38)))
  have hop := mstore_ok M3.out 0 3 1 7 ((⟨ka2, [], [], []⟩) : Pt) rfl HT.out.1 (by decide) (by decide) (by decide) (by rw [kv4]; decide) (by rw [kv4]; decide)
  rw [kv4] at hop
  have HO := Lib.hid hop
  clear hop
  go_wp2_with fail
  refine HO.out.mono ?_
  clear HO
  rintro e w5 ⟨rfl, F4, hm, hc, hk⟩
  have M4 := Lib.hid (show Mem W w5 kc sy F4 kp4 kf1 [] kx from hm)
  clear hm hc hk M3
  have hop := mload_ok M4.out 1 3 1 ((pt0 kc) : Pt) rfl HT.out.1 (by decide) (by decide) (by decide) (by rw [kv5]; decide) (by rw [kv5]; decide)
  rw [kv5] at hop
  have HO := Lib.hid hop
  clear hop
  go_wp2_with fail
  refine HO.out.mono ?_
  clear HO
  rintro e w6 ⟨rfl, F5, hm, hc, hk⟩
  have M5 := Lib.hid (show Mem W w6 kc sy F5 kp5 kf1 [] kx from hm)
  clear hm hc hk M4
  have hop := mup_yes M5.out 1 3 ((⟨kb1, [kS], [], []⟩) : Pt) rfl kS [] ke1 ke2 [0, 0, 0, 0, 0, 0, 0, 0] rfl [⟨0, kDn⟩] HT.out.1 rfl (by decide) rfl rfl rfl kv6 (by decide) 1 (by decide) (by decide)
  have HO := Lib.hid hop
  clear hop
  go_wp2_with fail
  refine HO.out.mono ?_
  clear HO
  rintro e w7 ⟨rfl, F6, hm, hc, hk⟩
  have M6 := Lib.hid (show Mem W w7 kc sy F6 kp6 kf2 [] kx from hm)
  clear hm hc hk M5
  have hop := mhear_yes M6.out 0 ((⟨ka3, [], [], [kDn]⟩) : Pt) rfl kDn [] ka4 [kAk] HT.out rfl (by decide) (by decide) kv7 (by decide) (by decide) (by decide)
  have HO := Lib.hid hop
  clear hop
  go_wp2_with fail
  refine HO.out.mono ?_
  clear HO
  rintro e w8 ⟨rfl, F7, hm, hc, hk⟩
  have M7 := Lib.hid (show Mem W w8 kc sy F7 kp7 kf2 [] kx from hm)
  clear hm hc hk M6
  have hop := manswer_yes M7.out 0 3 ((⟨ka4, [], [kAk], []⟩) : Pt) rfl kAk [] ke2 ke3 [⟨1, kDS⟩] HT.out.1 rfl (by decide) rfl rfl kv8 (by decide) 1 (by decide) (by decide)
  have HO := Lib.hid hop
  clear hop
  go_wp2_with fail
  refine HO.out.mono ?_
  clear HO
  rintro e w9 ⟨rfl, F8, hm, hc, hk⟩
  have M8 := Lib.hid (show Mem W w9 kc sy F8 kp8 kf3 [] kx from hm)
  clear hm hc hk M7
  have hop := mhear_yes M8.out 1 ((⟨kb1, [], [], [kDS]⟩) : Pt) rfl kDS [] kb2 [] HT.out rfl (by decide) (by decide) kv9 (by decide) (by decide) (by decide)
  have HO := Lib.hid hop
  clear hop
  go_wp2_with fail
  refine HO.out.mono ?_
  clear HO
  rintro e w10 ⟨rfl, F9, hm, hc, hk⟩
  have M9 := Lib.hid (show Mem W w10 kc sy F9 kp9 kf3 [] kx from hm)
  clear hm hc hk M8
  have hop := mload_ok M9.out 1 3 1 ((⟨kb2, [], [], []⟩) : Pt) rfl HT.out.1 (by decide) (by decide) (by decide) (by rw [kv10]; decide) (by rw [kv10]; decide)
  rw [kv10] at hop
  have HO := Lib.hid hop
  clear hop
  go_wp2_with fail
  refine HO.out.mono ?_
  clear HO
  rintro e w11 ⟨rfl, F10, hm, hc, hk⟩
  have M10 := Lib.hid (show Mem W w11 kc sy F10 kp10 kf3 [] kx from hm)
  clear hm hc hk M9
  go_wp2_with fail
  refine (mentry_ok M10.out 3 ke3 rfl).mono ?_
  rintro e w12 ⟨rfl, c12⟩
  replace M10 := Lib.hid (M10.out.keep c12)
  clear c12
  go_wp2_with fail
  have hsl := mslots_ok M10.out 0 ((⟨ka4, [], [], []⟩) : Pt) rfl
  rw [show live (((⟨ka4, [], [], []⟩) : Pt)).s.1 = [⟨1, 3, [0, 7, 0, 0, 0, 0, 0, 0], 4, rfl⟩] from rfl] at hsl
  refine hsl.mono ?_
  clear hsl
  rintro e w13 ⟨A, n, rfl, _, c13⟩
  replace M10 := Lib.hid (M10.out.keep c13)
  clear c13
  go_wp2_with fail
  refine (mconfig_ok M10.out).mono ?_
  rintro e w14 ⟨rfl, c14⟩
  replace M10 := Lib.hid (M10.out.keep c14)
  clear c14
  go_wp2_with fail
  go_ret
  exact ⟨rfl, M10.out.chg⟩
end Go.Proofs.YtadeoflkppiflaaGreatDoor
end
section
namespace Go.Proofs.YtadeoflkppiflaaGreatDoor
open Go.RowKit
set_option linter.unusedVariables false
set_option maxHeartbeats 1000000
set_option maxRecDepth 100000
attribute [local go_sem ↓] append_appS copy_copS clear_clrS make_mkS cell_row frozen_row loadLine storeLine loadSlot storeSlot heap_drew heap_drewN heap_alloc heap_past heap_setCell heap_putRow vs_get slc_st slc_li slc_us slice_slS loadMsg storeMsg loadHas storeHas msc_kd msc_li msc_di msc_ke
attribute [local go_sem] rowCell_some rowFrozen_some rowHas_some rowIn_some rowPart_full rowPart_lit rowPut_full rowPut_lit rowSet_some size_putRow vs_size vs_one wideLine wideSlot run_loadS run_storeS run_appS run_copS run_clrS run_mkS loadW_at storeW_at fit_all fit_le one_int one_bool one_pointer one_slice allOne_list putRow_new ne_size1 ne_size2 ne_size3 ne_size4 zero8_length lines_nil line_eq lit8 slc_size slc_one slc_part slc_in fold_slt fold_slc slc_set_us wideMsg wideHas run_slS msc_size msc_one msc_part msc_in fold_msc msc_putDi msc_putKe msc_putX msc_has ms4_lit
attribute [local simp ↓] heap_drew heap_drewN heap_alloc heap_past heap_setCell heap_putRow
attribute [local simp] rowCell_some rowFrozen_some rowHas_some rowIn_some rowPart_full rowPart_lit rowPut_full rowPut_lit rowSet_some size_putRow vs_size fit_all putRow_new ne_size1 ne_size2 ne_size3 ne_size4 zero8_length slc_size msc_size msc_putDi msc_putKe msc_putX msc_has fit_le
attribute [local go_sem ↓] ec_he ec_di ec_ow ec_sh ec_bu ec_by ec_wa sc_to
attribute [local go_sem] mi_and mi_or mi_not mi_beq0 mi_bne0 ec_size ec_one ec_part ec_in ec_has ec_setDi ec_setOw ec_setSh ec_setBu ec_setBy ec_setWa ec_setSh0 ec_setWa0 ec_putM sc_size sc_one sc_part sc_in
attribute [local simp] ec_size sc_size ec_setDi ec_setOw ec_setSh ec_setBu ec_setBy ec_setWa ec_setSh0 ec_setWa0 ec_putM
attribute [local go_sem ↓] loadEn storeEn loadSd storeSd en_z0
attribute [local go_sem] wideEn wideSd fold_sc size11 putRow_newB putRow_newC ms5_lit
attribute [local simp] en_z0 putRow_newB putRow_newC fit_le ec_has



attribute [local go_sem ↓] mlitZ zenc_po zenc_en zenc_q
attribute [local simp] mlitZ

/-! ### A step -/
structure MStp where
  kd : Int
  co : Int
  li : Int
  wd : Int
  v : Int
def mstc (x : MStp) : Array Value := #[.int .i64 x.kd, .int .i64 x.co, .int .i64 x.li, .int .i64 x.wd, .int .u64 x.v]
theorem mstc_size (x : MStp) : (mstc x).size = 5 := rfl
theorem mstc_one (x : MStp) : allOne (mstc x) := allOne_list _ rfl
theorem mstc_0 (x : MStp) : (mstc x)[0]? = some (.int .i64 x.kd) := rfl
theorem mstc_1 (x : MStp) : (mstc x)[1]? = some (.int .i64 x.co) := rfl
theorem mstc_2 (x : MStp) : (mstc x)[2]? = some (.int .i64 x.li) := rfl
theorem mstc_3 (x : MStp) : (mstc x)[3]? = some (.int .i64 x.wd) := rfl
theorem mstc_4 (x : MStp) : (mstc x)[4]? = some (.int .u64 x.v) := rfl
theorem wideMst : Wide Tryz.prog 42 5 := ⟨⟨_, Tryz.underlying42, by rfl⟩, by kernel_rfl⟩
theorem loadMst (x : Value) : Instr.loadAt 42 x = loadS 42 5 x := rfl
attribute [local go_sem ↓] loadMst mstc_0 mstc_1 mstc_2 mstc_3 mstc_4
theorem mstc_part (x : MStp) (t : TypeId) (f : Nat × Nat) : rowPart (some (.cells (mstc x) t f)) 0 5 = mstc x := rowPart_full _ _ _ _ rfl
attribute [local go_sem] wideMst mstc_size mstc_one mstc_part
theorem cgZ_field (W : World) : (Instr.field 23 (.agg cgZ.cells) 0).run Tryz.prog W = .ok (.int .i64 0) W := by kernel_rfl
attribute [local go_sem ↓] cgZ_field msg_same msg_sameZ
end Go.Proofs.YtadeoflkppiflaaGreatDoor
end
section
namespace Go.Proofs.YtadeoflkppiflaaGreatDoor
open Go.RowKit
set_option linter.unusedVariables false
set_option maxHeartbeats 1000000
attribute [local go_sem ↓] append_appS copy_copS clear_clrS make_mkS slice_slS cell_row frozen_row loadLine storeLine loadMsg storeMsg heap_drew heap_drewN heap_alloc heap_past heap_setCell heap_putRow vs_get msc_kd msc_li msc_di msc_ke
attribute [local go_sem] rowCell_some rowFrozen_some rowHas_some rowIn_some rowPart_full rowPart_lit rowPut_full rowPut_lit rowSet_some size_putRow vs_size vs_one wideLine wideMsg run_loadS run_storeS run_appS run_copS run_clrS run_mkS run_slS loadW_at storeW_at fit_all fit_le one_int one_bool one_pointer one_slice allOne_list putRow_new ne_size1 ne_size2 ne_size3 ne_size4 zero8_length line_eq lit8 msc_size msc_one msc_part msc_in fold_msc
attribute [local simp ↓] heap_drew heap_drewN heap_alloc heap_past heap_setCell heap_putRow
attribute [local simp] rowCell_some rowFrozen_some rowHas_some rowIn_some rowPart_full rowPart_lit rowPut_full rowPut_lit rowSet_some size_putRow vs_size fit_all putRow_new ne_size1 ne_size2 ne_size3 ne_size4 zero8_length msc_size
attribute [local go_sem ↓] ec_he ec_di ec_ow ec_sh ec_bu ec_by ec_wa sc_to
attribute [local go_sem] mi_and mi_or mi_not mi_beq0 mi_bne0 ec_size ec_one ec_part ec_in ec_has ec_setDi ec_setOw ec_setSh ec_setBu ec_setBy ec_setWa ec_setSh0 ec_setWa0 ec_putM sc_size sc_one sc_part sc_in
attribute [local simp] ec_size sc_size ec_setDi ec_setOw ec_setSh ec_setBu ec_setBy ec_setWa ec_setSh0 ec_setWa0 ec_putM
attribute [local go_sem ↓] loadEn storeEn loadSd storeSd
attribute [local go_sem] wideEn wideSd
attribute [local go_sem] fold_sc
attribute [local go_sem] size11
attribute [local go_sem ↓] en_z0
attribute [local simp] en_z0
attribute [local go_sem] putRow_newB putRow_newC
attribute [local simp] putRow_newB putRow_newC fit_le ec_has
/-- What is told, in a block of its own (or nil). -/
def SdsV (w : World) (xs : List Sd) : Ending → World → Prop := fun e w' => ∃ A c be, e = .returned (.slice A xs.length c) ∧ Vec 13 179 Sd.enc w' 0 be A c xs ∧ (be = 0 ∨ w.heap.size ≤ be) ∧ Chg [] w w'
theorem dtellv_any (s : Mk) (m : Ms) (w : World) (h0 : Old w 0) : Calls Tryz.prog 163 #[.int .u8 (mi s), .agg (msc m)] w (SdsV w (tellL s m)) := by
  have H0 := Lib.hid h0
  have h8 := cores_len s
  clear h0
  go_enter Tryz.func163, Tryz.ntmps163
  try dsimp only [List.append]
  go_wp2_with fail
  refine gen_calls1 (w := w) (b1 := w.heap.size) (x1 := .cells (msc m) 38 (0, 0)) (by (repeat' (first | exact Chg.refl _ _ | assumption | exact Chg.refl [] _ | refine Chg.drew ?_ | refine Chg.drewN ?_ _ | refine Chg.alloc ?_ _ | refine Chg.putRow ?_ _ _ _ (.inr (by first | exact Nat.le_refl _ | omega | simp)) | refine Chg.setCell ?_ _ _ _ (.inr (by first | exact Nat.le_refl _ | omega | simp)) ))) (by simp) fun w1 C1 rM => ?_
  have oM := old rM
  refine (gcores_any s w1 (H0.out.chg C1)).mono ?_
  rintro e w2 ⟨A, cp0, rfl, hs, hA, c2⟩
  have rM2 := c2.keep rM (by simp)
  have HA := Lib.hid hs
  have C2 := Lib.hid (C1.trans c2)
  have HL : ∃ n, n = (coresL s).length := ⟨_, rfl⟩
  obtain ⟨N, hN⟩ := HL
  rw [← hN] at HA h8 ⊢
  have HN := Lib.hid hN
  clear hs hA c2 C1 rM oM hN
  go_wp2_with fail
  go_loopw [5, 11] (fun x i wr => ∃ (k be cp : Nat) (B : Option Addr) (xs : List Sd), k ≤ N ∧ i = .int .i64 k ∧ xs = (tellL s m).take k ∧ x = .slice B xs.length cp ∧ Chg [] w2 wr ∧ Vec 13 179 Sd.enc wr 0 be B cp xs ∧ (be = 0 ∨ w2.heap.size ≤ be)) (fun _ i _ => N - (intOf i).toNat)
  case atStart => exact ⟨0, 0, 0, none, [], by omega, rfl, rfl, rfl, Chg.refl _ _, Vec.nil _ _ _ _ _, .inl rfl⟩
  case round =>
    obtain ⟨k, be, cp, B, xs, hk, rfl, hxs, rfl, hc, hvb, hbe⟩ := hrel
    by_cases hlt : k < N
    · have g1 : (k : Int) < (N : Int) := by omega
      have g0 : (0 : Int) ≤ (k : Int) := by omega
      have g2 : (N : Int) ≤ 8 := by omega
      obtain ⟨b, o, rfl⟩ := HA.out.addr (by omega)
      obtain ⟨cs, t, f, hb, hcell⟩ := (HA.out.chg hc (by simp)).cell hlt
      obtain ⟨y, hy⟩ : ∃ y, (coresL s)[k]? = some y := ⟨(coresL s)[k]'(by rw [← HN.out]; exact hlt), List.getElem?_eq_getElem _⟩
      rw [List.getElem?_map, hy] at hcell
      simp only [Option.map_some] at hcell
      have rMr := hc.keep rM2 (by simp)
      have oM := old rMr
      have ht : xs ++ [⟨y, m⟩] = (tellL s m).take (k + 1) := by rw [hxs, List.take_add_one]; simp [tellL, hy]
      have hlen : xs.length ≤ 8 := by rw [hxs, List.length_take]; omega
      obtain ⟨be', cap', A', w3, happ, hv2, hbe2, hc2⟩ := Vec.acc (ty := 155) eltSd (hc.alloc (.cells (sc ⟨y, m⟩) 179)) (hvb.keep ((Chg.refl [] wr).alloc (.cells (sc ⟨y, m⟩) 179)) (by simp)) hbe ((H0.out.chg C2.out)) (sd_slice wr ⟨y, m⟩) (c := 1) rfl (by omega) (by unfold maxLen; omega)
      have HT := Lib.hid ht
      have HL := Lib.hid (show xs.length + 1 = (xs ++ [(⟨y, m⟩ : Sd)]).length by rw [List.length_append]; rfl)
      have HV2 := Lib.hid hv2
      have HB2 := Lib.hid hbe2
      have HC2 := Lib.hid hc2
      have hsd := fun C h h0 => sd_lit y m C h h0
      clear hvb hc hbe hy ht hlen hv2 hbe2 hc2 hxs
      go_wp2_with fail
      go_roundw
      case rel => exact ⟨k + 1, be', cap', A', xs ++ [⟨y, m⟩], by omega, by go_num, HT.out, by rw [← HL.out], HC2.out, HV2.out, HB2.out⟩
      case measure => simp [intOf]; omega
    · obtain rfl : k = N := by omega
      have hall : xs = tellL s m := by rw [hxs]; exact List.take_of_length_le (by rw [HN.out]; simp [tellL])
      have HV := Lib.hid hvb
      have HC := Lib.hid (C2.out.trans hc)
      have HB := Lib.hid (show be = 0 ∨ w.heap.size ≤ be by have := C2.out.size; omega)
      clear hvb hc hbe hxs
      go_wp2_with fail
      go_ret
      rw [← hall]
      exact ⟨_, _, _, rfl, HV.out, HB.out, HC.out⟩
end Go.Proofs.YtadeoflkppiflaaGreatDoor
end
section
namespace Go.Proofs.YtadeoflkppiflaaGreatDoor
open Go.RowKit
set_option linter.unusedVariables false
set_option maxHeartbeats 1000000
set_option maxRecDepth 100000
attribute [local go_sem ↓] append_appS copy_copS clear_clrS make_mkS slice_slS cell_row frozen_row loadLine storeLine loadMsg storeMsg heap_drew heap_drewN heap_alloc heap_past heap_setCell heap_putRow vs_get msc_kd msc_li msc_di msc_ke
attribute [local go_sem] rowCell_some rowFrozen_some rowHas_some rowIn_some rowPart_full rowPart_lit rowPut_full rowPut_lit rowSet_some size_putRow vs_size vs_one wideLine wideMsg run_loadS run_storeS run_appS run_copS run_clrS run_mkS run_slS loadW_at storeW_at fit_all fit_le one_int one_bool one_pointer one_slice allOne_list putRow_new ne_size1 ne_size2 ne_size3 ne_size4 zero8_length line_eq lit8 msc_size msc_one msc_part msc_in fold_msc
attribute [local simp ↓] heap_drew heap_drewN heap_alloc heap_past heap_setCell heap_putRow
attribute [local simp] rowCell_some rowFrozen_some rowHas_some rowIn_some rowPart_full rowPart_lit rowPut_full rowPut_lit rowSet_some size_putRow vs_size fit_all putRow_new ne_size1 ne_size2 ne_size3 ne_size4 zero8_length msc_size
attribute [local go_sem ↓] ec_he ec_di ec_ow ec_sh ec_bu ec_by ec_wa sc_to
attribute [local go_sem] mi_and mi_or mi_not mi_beq0 mi_bne0 ec_size ec_one ec_part ec_in ec_has ec_setDi ec_setOw ec_setSh ec_setBu ec_setBy ec_setWa ec_setSh0 ec_setWa0 ec_putM sc_size sc_one sc_part sc_in
attribute [local simp] ec_size sc_size ec_setDi ec_setOw ec_setSh ec_setBu ec_setBy ec_setWa ec_setSh0 ec_setWa0 ec_putM
attribute [local go_sem ↓] loadEn storeEn loadSd storeSd en_z0
attribute [local go_sem] wideEn wideSd fold_sc size11 putRow_newB putRow_newC ms5_lit
attribute [local simp] en_z0 putRow_newB putRow_newC fit_le ec_has
theorem dtellv4_any (s : Mk) (kd li : Int) (di ke : Bool) (w : World) (h0 : Old w 0) : Calls Tryz.prog 163 #[.int .u8 (mi s), .agg #[.int .i64 kd, .int .i64 li, .bool di, .bool ke, .int .u64 0, .int .u64 0, .int .u64 0, .int .u64 0, .int .u64 0, .int .u64 0, .int .u64 0, .int .u64 0]] w (SdsV w (tellL s (ms4 kd li di ke))) 
  := dtellv_any s (ms4 kd li di ke) w h0

def En3V (w : World) (r : (En × List Sd) × Int) : Ending → World → Prop := fun e w' => ∃ A c be, e = .returned (.tuple #[.agg (ec r.1.1), .slice A r.1.2.length c, .int .i64 r.2]) ∧ Vec 13 179 Sd.enc w' 0 be A c r.1.2 ∧ (be = 0 ∨ w.heap.size ≤ be) ∧ Chg [] w w'
theorem En3V.err (w w' : World) (n : Int) (h : Chg [] w w') : En3V w ((enZ, []), n) (.returned (.tuple #[.agg (ec enZ), .slice none 0 0, .int .i64 n])) w' := ⟨none, 0, 0, rfl, .inl ⟨rfl, rfl, rfl, rfl⟩, .inl rfl, h⟩
theorem dpushedv_any (x : En) (w : World) (h0 : Old w 0) : Calls Tryz.prog 105 #[.agg (ec x)] w (En3V w (pushedE x)) := by
  cases hr : readyE x
  · rw [show pushedE x = ((enZ, []), 16) from by simp [pushedE, hr]]
    go_enter Tryz.func105, Tryz.ntmps105
    try dsimp only [List.append]
    go_wp2_with fail
    refine gen_calls2 (w := w) (b1 := w.heap.size) (x1 := .cells (ec (x)) 56 (0, 0)) (b2 := w.heap.size + 1) (x2 := .cells (ec (enZ)) 56 (0, 0)) (by (repeat' (first | with_reducible exact Chg.refl _ _ | with_reducible assumption | with_reducible refine Chg.drew ?_ | with_reducible refine Chg.drewN ?_ _ | with_reducible refine Chg.alloc ?_ _ | with_reducible refine Chg.putRow ?_ _ _ _ (.inr ?_) | with_reducible refine Chg.setCell ?_ _ _ _ (.inr ?_)  | (show _ ≤ _; first | exact Nat.le_refl _ | omega | (simp; done))))) (by simp [*]) (by simp [*]) fun w1 C1 rE rR => ?_
    have oE := old rE
    have oR := old rR
    refine (dready_at x _ hr w1).mono ?_
    rintro e w3 ⟨rfl, c3⟩
    have rE3 := c3.keep rE (by simp)
    have rR3 := c3.keep rR (by simp)
    have C3 := C1.trans c3
    clear rE rR oE oR C1 c3
    have oE3 := old rE3
    have oR3 := old rR3
    go_wp2_with fail
    refine bodyPost_ret (v := .tuple #[.agg (ec enZ), .slice none 0 0, .int .i64 16]) ?_ (by rfl) ?_
    · exact results_en3 (by rfl) _ _ (w.heap.size + 1) enZ (0, 0) (by rfl) (by simp [rR3]; try rfl) _ _ (by rfl) (by rfl)
    exact En3V.err _ _ _ (by (repeat' (first | with_reducible exact Chg.refl _ _ | with_reducible assumption | with_reducible refine Chg.drew ?_ | with_reducible refine Chg.drewN ?_ _ | with_reducible refine Chg.alloc ?_ _ | with_reducible refine Chg.putRow ?_ _ _ _ (.inr ?_) | with_reducible refine Chg.setCell ?_ _ _ _ (.inr ?_)  | (show _ ≤ _; first | exact Nat.le_refl _ | omega | (simp; done)))))
  · rw [show pushedE x = (((overE x).setDi false, tellL (bitM x.by_) (ms4 14 0 false false)), 0) from by simp [pushedE, hr]]
    go_enter Tryz.func105, Tryz.ntmps105
    try dsimp only [List.append]
    go_wp2_with fail
    refine gen_calls2 (w := w) (b1 := w.heap.size) (x1 := .cells (ec (x)) 56 (0, 0)) (b2 := w.heap.size + 1) (x2 := .cells (ec (enZ)) 56 (0, 0)) (by (repeat' (first | with_reducible exact Chg.refl _ _ | with_reducible assumption | with_reducible refine Chg.drew ?_ | with_reducible refine Chg.drewN ?_ _ | with_reducible refine Chg.alloc ?_ _ | with_reducible refine Chg.putRow ?_ _ _ _ (.inr ?_) | with_reducible refine Chg.setCell ?_ _ _ _ (.inr ?_)  | (show _ ≤ _; first | exact Nat.le_refl _ | omega | (simp; done))))) (by simp [*]) (by simp [*]) fun w1 C1 rE rR => ?_
    have oE := old rE
    have oR := old rR
    refine (dready_at x _ hr w1).mono ?_
    rintro e w3 ⟨rfl, c3⟩
    have rE3 := c3.keep rE (by simp)
    have rR3 := c3.keep rR (by simp)
    have C3 := C1.trans c3
    clear rE rR oE oR C1 c3
    have oE3 := old rE3
    have oR3 := old rR3
    go_wp2_with fail
    refine (dover_any x w3).mono ?_
    rintro e w4 ⟨rfl, c4⟩
    have rE4 := c4.keep rE3 (by simp)
    have rR4 := c4.keep rR3 (by simp)
    have C4 := C3.trans c4
    clear rE3 rR3 oE3 oR3 C3 c4
    have oE4 := old rE4
    have oR4 := old rR4
    go_wp2_with fail
    refine gen_world2 (w := w) (b1 := w.heap.size) (x1 := .cells (ec ((overE x).setDi false)) 56 (0, 0)) (b2 := w.heap.size + 1) (x2 := .cells (ec (enZ)) 56 (0, 0)) (by (repeat' (first | with_reducible exact Chg.refl _ _ | with_reducible assumption | with_reducible refine Chg.drew ?_ | with_reducible refine Chg.drewN ?_ _ | with_reducible refine Chg.alloc ?_ _ | with_reducible refine Chg.putRow ?_ _ _ _ (.inr ?_) | with_reducible refine Chg.setCell ?_ _ _ _ (.inr ?_)  | (show _ ≤ _; first | exact Nat.le_refl _ | omega | (simp; done))))) (by simp (maxDischargeDepth := 8) [*]; try rfl) (by simp (maxDischargeDepth := 8) [*]; try rfl) fun w1 C1 rE rR => ?_
    have oE := old rE
    have oR := old rR
    have o0 := h0.chg C1
    go_region_held3 (fun w' => w'.heap[w.heap.size]? = some (.cells (ec ((overE x).setDi false)) 56 (0, 0))) (first | exact rE | exact c2.keep rE (by simp) | exact c2.keep (by simp [*]) (by simp) | simp [*])
      (first
        | (go_at_call 164; refine (gbit_any _ _).mono ?_; rintro e w' ⟨rfl, rfl⟩)
        | (go_at_call 163; refine (dtellv4_any _ _ _ _ _ _ (by first | exact o0 | exact o0.chg C1 | (show (0 : Nat) < _; simpa using o0.lt))).mono ?_; rintro e w' ⟨A2, n2, be, rfl, hs2, hA2, c2⟩; (have hA3 : be = 0 ∨ w1.heap.size ≤ be := (by simpa using hA2)); (first | (have rR2 := c2.keep rR (by simp)) | (have rR2 := c2.keep (x := .cells (ec ((overE x).setDi false)) 56 (0, 0)) (k := w.heap.size + 1) (by simp [rR]) (by simp)))))
    all_goals
      go_wp2_with fail
      refine bodyPost_ret (v := .tuple #[.agg (ec ((overE x).setDi false)), .slice A2 (tellL (bitM x.by_) (ms4 14 0 false false)).length n2, .int .i64 0]) ?_ (by rfl) ?_
      · exact results_en3 (by rfl) _ _ (w.heap.size + 1) _ (0, 0) (by rfl) (by first | exact rR2 | (simp [rR2]; done)) _ _ (by rfl) (by rfl)
      refine ⟨A2, n2, be, rfl, ?_, hA3.imp id (Nat.le_trans C1.size), by (repeat' (first | with_reducible exact Chg.refl _ _ | with_reducible assumption | with_reducible refine Chg.drew ?_ | with_reducible refine Chg.drewN ?_ _ | with_reducible refine Chg.alloc ?_ _ | with_reducible refine Chg.putRow ?_ _ _ _ (.inr ?_) | with_reducible refine Chg.setCell ?_ _ _ _ (.inr ?_)  | with_reducible refine Chg.trans ?_ c2 | with_reducible refine Chg.trans (b := World.drew _) ?_ c2 | (show _ ≤ _; first | exact Nat.le_refl _ | omega | (simp; done))))⟩
      first
        | exact hs2
        | exact hs2.keep ((Chg.refl [w.heap.size + 1] _).putRow _ _ _ (.inl (by simp))) (by have := oR.lt; simp; omega)
end Go.Proofs.YtadeoflkppiflaaGreatDoor
end
section
namespace Go.Proofs.YtadeoflkppiflaaGreatDoor
open Go.RowKit
set_option linter.unusedVariables false
set_option maxHeartbeats 1000000
set_option maxRecDepth 100000
attribute [local go_sem ↓] append_appS copy_copS clear_clrS make_mkS cell_row frozen_row loadLine storeLine loadSlot storeSlot heap_drew heap_drewN heap_alloc heap_past heap_setCell heap_putRow vs_get slc_st slc_li slc_us slice_slS loadMsg storeMsg loadHas storeHas msc_kd msc_li msc_di msc_ke
attribute [local go_sem] rowCell_some rowFrozen_some rowHas_some rowIn_some rowPart_full rowPart_lit rowPut_full rowPut_lit rowSet_some size_putRow vs_size vs_one wideLine wideSlot run_loadS run_storeS run_appS run_copS run_clrS run_mkS loadW_at storeW_at fit_all fit_le one_int one_bool one_pointer one_slice allOne_list putRow_new ne_size1 ne_size2 ne_size3 ne_size4 zero8_length lines_nil line_eq lit8 slc_size slc_one slc_part slc_in fold_slt fold_slc slc_set_us wideMsg wideHas run_slS msc_size msc_one msc_part msc_in fold_msc msc_putDi msc_putKe msc_putX msc_has ms4_lit
attribute [local simp ↓] heap_drew heap_drewN heap_alloc heap_past heap_setCell heap_putRow
attribute [local simp] rowCell_some rowFrozen_some rowHas_some rowIn_some rowPart_full rowPart_lit rowPut_full rowPut_lit rowSet_some size_putRow vs_size fit_all putRow_new ne_size1 ne_size2 ne_size3 ne_size4 zero8_length slc_size msc_size msc_putDi msc_putKe msc_putX msc_has fit_le
attribute [local go_sem ↓] ec_he ec_di ec_ow ec_sh ec_bu ec_by ec_wa sc_to
attribute [local go_sem] mi_and mi_or mi_not mi_beq0 mi_bne0 ec_size ec_one ec_part ec_in ec_has ec_setDi ec_setOw ec_setSh ec_setBu ec_setBy ec_setWa ec_setSh0 ec_setWa0 ec_putM sc_size sc_one sc_part sc_in
attribute [local simp] ec_size sc_size ec_setDi ec_setOw ec_setSh ec_setBu ec_setBy ec_setWa ec_setSh0 ec_setWa0 ec_putM
attribute [local go_sem ↓] loadEn storeEn loadSd storeSd en_z0
attribute [local go_sem] wideEn wideSd fold_sc size11 putRow_newB putRow_newC ms5_lit
attribute [local simp] en_z0 putRow_newB putRow_newC fit_le ec_has



attribute [local go_sem ↓] mlitZ zenc_po zenc_en zenc_q
attribute [local simp] mlitZ

section
variable {W : World} {c : Cg} {z : Lay} {L : List (Po × Pt)} {en : List En} {es : List Ent} {xs : List Int}
theorem zpush_off (k : Int) (w : World) (h : Msd W w c z L en es xs) (hk : inB k c.li = false) : Calls Tryz.prog 50 #[.pointer (some ⟨z.sy, 0, none⟩), .int .i64 k] w fun r w' => r = .returned (.int .i64 1) ∧ w = w' := by
  have HH := Lib.hid h
  have HK := Lib.hid hk
  clear h hk
  go_enter Tryz.func50, Tryz.ntmps50
  try dsimp only [List.append]
  go_wp2_with (first | (go_at_call 76; refine (isline_at k false HK.out _ HH.out).mono ?_; rintro e w' ⟨rfl, rfl⟩))
  go_ret
  exact ⟨rfl, rfl⟩
theorem zpush_wait (i : Nat) (e : En) (w : World) (h : Msd W w c z L en es xs) (hT : Tab W) (he : en[i]? = some e) (hd : readyE e = false) : Calls Tryz.prog 50 #[.pointer (some ⟨z.sy, 0, none⟩), .int .i64 i] w fun r w' => r = .returned (.int .i64 16) ∧ Chg [] w w' := by
  have hi : i < c.li := by rw [← h.lines]; exact (List.getElem?_eq_some_iff.1 he).1
  have rS := h.sys
  have rE := h.ents
  have oS := old rS
  have oE := old rE
  have p0 := fun t f => erow he t f
  have p1 := fun t f => erowIn he t f
  have g0 : (0 : Int) ≤ (i : Int) := by omega
  have g1 : (i : Int) < (c.li : Int) := by omega
  have HH := Lib.hid h
  have HB := Lib.hid (show inB (i : Int) c.li = true by unfold inB; simp; omega)
  have HE := Lib.hid he
  have HT := Lib.hid (hT.keep h.chg (by simp)).old0
  have HP := Lib.hid (show pushedE e = ((enZ, []), 16) by unfold pushedE; rw [if_neg (by simp [hd])])
  have HK := Lib.hid (fun w1 (o : Old w1 0) => HP.out ▸ dpushedv_any e w1 o)
  clear h he hi hd hT
  go_enter Tryz.func50, Tryz.ntmps50
  try dsimp only [List.append]
  go_wp2_with (first | (go_at_call 76; refine (isline_at (i : Int) true HB.out _ HH.out).mono ?_; rintro e w' ⟨rfl, rfl⟩))
  refine (HK.out _ HT.out).mono ?_
  rintro r w2 ⟨A, n, be1, rfl, hs, hA, hc⟩
  have HC := Lib.hid hc
  clear hs hA hc rS rE oS oE
  go_wp2_with fail
  go_ret
  exact ⟨rfl, HC.out.alloc _⟩
theorem MTo.aside {w w1 w2 : World} {z' : Lay} {L' : List (Po × Pt)} {b : Nat} (h : MTo W w c z L z' L' en es xs w1) (hb : w.heap.size ≤ b) (hW : W.heap.size ≤ w.heap.size) (hn : b ∉ z'.all L') (hc : Chg [b] w1 w2) : MTo W w c z L z' L' en es xs w2 :=
  ⟨h.1.keepL hc (by simpa using hn) (by simp; omega), h.2.1.trans' hc (by simp; omega), h.2.2⟩
theorem list_set13 (l ys : List Value) (o : Nat) (v : Value) (h : (l.drop o).take 13 = ys) : ((l.set (o + 2) v).drop o).take 13 = ys.set 2 v := by
  subst h
  rw [List.drop_set, if_neg (by omega), show o + 2 - o = 2 by omega, List.take_set]
theorem sd_line (tk k l : Int) (a b : Bool) (v : Int) : (Sd.enc ⟨tk, ms4 k l a b⟩).set 2 (.int .i64 v) = Sd.enc ⟨tk, ms4 k v a b⟩ := by rfl
theorem zpush_go (i : Nat) (e : En) (w : World) (h : Msd W w c z L en es xs) (hT : Tab W) (he : en[i]? = some e) (hd : readyE e = true) (hc : isC e.by_ = true) (hco : e.by_ < c.co) (hg : mg (ms4 14 i false false) = true) (v : Int) (hv : saveV c es i e = v) (es' : List Ent) (hs : saveEs c es i e = es') (M : Nat) (hM : ∀ x ∈ ports L, x.dn.length ≤ M) (hMn : M + 1 ≤ 1000) :
    Calls Tryz.prog 50 #[.pointer (some ⟨z.sy, 0, none⟩), .int .i64 i] w fun r w' => (v ≠ 0 ∧ r = .returned (.int .i64 v) ∧ ∃ be', MTo W w c z L { z with be := be' } L en es' xs w') ∨
      (v = 0 ∧ r = .returned (.int .i64 0) ∧ ∃ be' ks' L', MTo W w c z L { z with be := be', ks := ks' } L' (en.set i ((overE e).setDi false)) es' xs w' ∧ ports L' = sendP (ports L) [⟨e.by_, ms4 14 i false false⟩]) := by
  have hi : i < c.li := by rw [← h.lines]; exact (List.getElem?_eq_some_iff.1 he).1
  have rS := h.sys
  have rE := h.ents
  have oS := old rS
  have oE := old rE
  have p0 := fun t f => erow he t f
  have p1 := fun t f => erowIn he t f
  have g0 : (0 : Int) ≤ (i : Int) := by omega
  have g1 : (i : Int) < (c.li : Int) := by omega
  have HH := Lib.hid h
  have HB := Lib.hid (show inB (i : Int) c.li = true by unfold inB; simp; omega)
  have HE := Lib.hid he
  have HT0 := Lib.hid (hT.keep h.chg (by simp)).old0
  have HT := Lib.hid hT
  have HP := Lib.hid (show pushedE e = (((overE e).setDi false, [⟨e.by_, ms4 14 0 false false⟩]), 0) by unfold pushedE; rw [if_pos hd, tell_one hc])
  have HK := Lib.hid (fun w1 (o : Old w1 0) => HP.out ▸ dpushedv_any e w1 o)
  have HS := Lib.hid (fun w1 (c1 : Chg [] w w1) => hs ▸ hv ▸ zsave_ok i e w1 (h.keep c1) he)
  have HMM := Lib.hid hM
  have HMN := Lib.hid hMn
  have HG := Lib.hid hg
  have HCO := Lib.hid hco
  have HC := Lib.hid (show 0 ≤ e.by_ by unfold isC at hc; simp at hc; omega)
  have HEX := Lib.hid (show ∃ e', (overE e).setDi false = e' from ⟨_, rfl⟩)
  clear h he hi hd hv hs hT hM hMn hg hco hc
  obtain ⟨e', he'⟩ := HEX.out
  rw [he'] at HK ⊢
  have HE' := Lib.hid he'
  clear he' HEX HP
  go_enter Tryz.func50, Tryz.ntmps50
  try dsimp only [List.append]
  go_wp2_with (first | (go_at_call 76; refine (isline_at (i : Int) true HB.out _ HH.out).mono ?_; rintro e w' ⟨rfl, rfl⟩))
  refine (HK.out _ HT0.out).mono ?_
  rintro r w2 ⟨A, n, b, rfl, hs, hA, hc⟩
  rcases hs with ⟨_, _, _, hs⟩ | ⟨hb0, rfl, _, r0, rb, _⟩
  · cases hs
  have hbw : w.heap.size ≤ b := hA.resolve_left hb0
  have hx : ((sq Sd.enc [(⟨e.by_, ms4 14 0 false false⟩ : Sd)] r0).toList.drop 0).take 13 = Sd.enc ⟨e.by_, ms4 14 0 false false⟩ := by
    simp [sq, cat, Sd.len]
  generalize sq Sd.enc [(⟨e.by_, ms4 14 0 false false⟩ : Sd)] r0 = cs at rb hx
  have HX := Lib.hid hx
  have C2 := Lib.hid hc
  have HBW := Lib.hid hbw
  have ob := old rb
  clear hx hc hA hbw hb0 rS rE oS oE
  go_wp2_with fail
  have r3 : (w2.alloc (.cells (ec e') 56)).heap[w2.heap.size]? = some (.cells (ec e') 56 (0, 0)) := new_blk _ _
  have C3 := Lib.hid (C2.out.alloc (.cells (ec e') 56))
  have HW3 := Lib.hid (show w.heap.size ≤ w2.heap.size from C2.out.size)
  replace rb := ((Chg.refl [] w2).alloc (.cells (ec e') 56)).keep rb List.not_mem_nil
  have nb3 : b ≠ w2.heap.size := by have := ob.lt; omega
  generalize w2.heap.size = b3 at r3 HW3 nb3 ⊢
  generalize w2.alloc (.cells (ec e') 56) = w3 at r3 C3 rb ⊢
  clear ob
  have HNB := Lib.hid (show b ∉ z.all L from fun hm => by have h1 := HH.out.old b hm; have h2 := HBW.out; omega)
  have HN3 := Lib.hid (show b3 ∉ z.all L from fun hm => by have h1 := HH.out.old b3 hm; have h2 := HW3.out; omega)
  have HL3 := Lib.hid (lt_heap rb)
  refine (HS.out _ C3.out).mono ?_
  rintro r w4 ⟨rfl, be', M4⟩
  have HM4 := Lib.hid M4
  replace rb := M4.2.1.keep rb HNB.out
  replace r3 := M4.2.1.keep r3 HN3.out
  clear M4 C2
  have ob := old rb
  have o3 := old r3
  by_cases hv : v = 0
  · obtain rfl := hv
    have HZB := Lib.hid (show b ∉ ({ z with be := be' } : Lay).all L from fun hm => by rcases HM4.out.2.2 b hm with h1 | h1; exact HNB.out h1; have := HL3.out; omega)
    go_wp2_with fail
    go_loopw [37] (fun ix wr => ∃ (j : Nat) (cs' : Array Value), j ≤ 1 ∧ ix = .int .i64 j ∧ Chg [b] w4 wr ∧ wr.heap[b]? = some (.cells cs' 179 (0, 0)) ∧ (j = 0 → cs' = cs) ∧ (j = 1 → cs' = cs.setIfInBounds 2 (.int .i64 i))) (fun ix _ => 1 - (intOf ix).toNat)
    case atStart => exact ⟨0, cs, by omega, rfl, Chg.refl _ _, rb, fun _ => rfl, by omega⟩
    case round =>
      obtain ⟨j, cs', hj, rfl, hc, hb, h0, h1⟩ := hrel
      have r3' := hc.keep r3 (by simp; omega)
      have HC0 := Lib.hid hc
      have H1 := Lib.hid h1
      clear hc h1 rb r3 ob o3
      by_cases hlt : j < 1
      · obtain rfl : j = 0 := by omega
        obtain rfl := h0 rfl
        have hcl : cs'[2]? = some (.int .i64 0) := by
          have h2 := congrArg (fun l => l[2]?) HX.out
          rw [List.getElem?_take_of_lt (by omega), List.getElem?_drop, Array.getElem?_toList] at h2
          exact h2
        clear h0 hlt hj
        have ob := old hb
        go_wp2_with fail
        refine ⟨⟨1, cs'.setIfInBounds 2 (.int .i64 i), by omega, rfl, HC0.out.setCell _ _ _ (.inl (by simp)), by rw [heap_setCell, if_pos rfl, hb]; rfl, by omega, fun _ => rfl⟩, by simp [intOf]⟩
      · obtain rfl : j = 1 := by omega
        obtain rfl := H1.out rfl
        have hsl : Sl wr 13 (some ⟨b, 0, none⟩) 1 (cat Sd.enc [⟨e.by_, ms4 14 i false false⟩]) := ⟨by simp [cat, Sd.len], .inr ⟨b, 0, _, 179, (0, 0), rfl, hb, by
          rw [Array.toList_setIfInBounds, list_set13 _ _ 0 _ HX.out, sd_line]; simp [cat]⟩⟩
        have HM5 := Lib.hid (((HH.out.stay C3.out).trans HM4.out).aside HBW.out HH.out.chg.size HZB.out HC0.out)
        have hbec := zbecome_ok i e e' (some ⟨b, 0, none⟩) 1 n [⟨e.by_, ms4 14 i false false⟩] wr HM5.out.1 HT.out HE.out rfl hsl (fun _ a ha => by cases ha; exact HZB.out) (by
          intro d hd
          simp only [List.mem_singleton] at hd
          subst hd
          exact ⟨HC.out, HCO.out, HG.out⟩) M HMM.out HMN.out
        have HBE := Lib.hid hbec
        clear hsl hbec h0 hb hlt hj
        have o3 := old r3'
        go_wp2_with fail
        refine HBE.out.mono ?_
        rintro r w6 ⟨rfl, L', M6, hp⟩
        have HM6 := Lib.hid (HM5.out.trans M6)
        have HPP := Lib.hid hp
        clear M6 hp r3' o3
        go_wp2_with fail
        refine (HM6.out.1.count 13 (by decide) (by decide)).mono ?_
        rintro r w7 ⟨⟨v, rfl⟩, ks', M7⟩
        have HM7 := Lib.hid (HM6.out.trans M7)
        clear M7
        go_wp2_with fail
        go_ret
        have hfin : ∃ be' ks' L', MTo W w c z L { z with be := be', ks := ks' } L' (en.set i e') es' xs w7 ∧ ports L' = sendP (ports L) [⟨e.by_, ms4 14 i false false⟩] := ⟨be', ks', L', HM7.out, HPP.out⟩
        first
          | exact .inr ⟨rfl, rfl, hfin⟩
          | exact ⟨rfl, hfin⟩
  · have tv : (v != 0) = true := by simpa using hv
    go_wp2_with fail
    go_ret
    first
      | exact .inl ⟨hv, rfl, be', (HH.out.stay C3.out).trans HM4.out⟩
      | exact ⟨rfl, be', (HH.out.stay C3.out).trans HM4.out⟩
end
end Go.Proofs.YtadeoflkppiflaaGreatDoor
end
