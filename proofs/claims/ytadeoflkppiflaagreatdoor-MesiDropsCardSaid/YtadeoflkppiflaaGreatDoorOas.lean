/- Texts of the walk, one behind the other: Pta Ptb Pse Psf Psg Ptc Prg. No condition. -/
import Derived.Test.YtadeoflkppiflaaGreatDoorOaq
import Derived.Test.YtadeoflkppiflaaGreatDoorOar
import Derived.BigQuiet
import Derived.Deep.Cut
import Derived.Deep.CutBlock
import Derived.Deep.CutRange
import Derived.Deep.DeepCutAuto
import Derived.Deep.QuietTactic
import Derived.Deep.RegionHeld3
import Derived.Deep.RegionWith
section
namespace Go.Proofs.YtadeoflkppiflaaGreatDoor
open Go.RowKit
set_option linter.unusedVariables false
set_option maxHeartbeats 1000000

theorem Short.dnB {c : Cg} {n : Nat} {S : Mst} {cur : Nat → List Int} (hQ : Short c S) (h : Inv c n S cur) : ∀ x ∈ S.ps, x.dn.length ≤ 1 := by
  intro x hx
  obtain ⟨j, hj⟩ := List.getElem?_of_mem hx
  have hjl := (List.getElem?_eq_some_iff.1 hj).1
  have := (hQ j (by rw [← h.co]; exact hjl)).2.2
  rw [atP_of hj] at this
  exact this
section
variable {W w : World} {c : Cg} {sy n : Nat} {F : List Nat} {S : Mst} {cur : Nat → List Int} (hm : MS W w c sy F S) (hI : Inv c n S cur)
include hm
theorem MS.same9 {w' : World} (hc : Chg [] w w') : MTS W w c sy F S w' := Mem.stay hm hc
include hI
theorem sload9 (hn : n ≤ 1000000000) (hQ : Short c S) (hT : Tabs W) (k li wd : Int) :
    Calls Tryz.prog 28 #[.pointer (some ⟨sy, 0, none⟩), .int .i64 k, .int .i64 li, .int .i64 wd] w fun e w' => e = .returned (.tuple #[.int .u64 (loadM c S k li wd).2.v, .bool (loadM c S k li wd).2.hit]) ∧ MTS W w c sy F (loadM c S k li wd).1 w' := by
  unfold loadM
  cases hp : portAt c S k with
  | none => exact (mload_no hm k li wd (hI.portNone hp)).mono fun e w' h => ⟨h.1, MS.same9 hm (h.2 ▸ Chg.refl [] w)⟩
  | some x =>
    obtain ⟨j, rfl, hj, hx, hat, hP, _⟩ := hI.port hp
    have hQj := hQ j hj
    rw [hat] at hQj
    have hus : x.s.2 ≤ 1000000000 := by have := hP.us; omega
    have hq : x.up.length < 1000 := by have := hQj.1; omega
    have h64 := hI.ok.li64
    dsimp only
    by_cases hl : inB li c.li = true
    · rw [if_pos hl]
      obtain ⟨_, b, _⟩ := hP.aj.loadF (inB_iff.1 hl).2 wd
      exact mload_ok hm j li wd x hx hT.1 hl hus hq (b.msgs h64).2 (b.msgs h64).1
    · rw [if_neg hl]
      exact (mload_off hm j li wd hj (by simpa using hl)).mono fun e w' h => ⟨h.1, MS.same9 hm (h.2 ▸ Chg.refl [] w)⟩
theorem sstore9 (hn : n ≤ 1000000000) (hQ : Short c S) (hT : Tabs W) (k li wd v : Int) :
    Calls Tryz.prog 34 #[.pointer (some ⟨sy, 0, none⟩), .int .i64 k, .int .i64 li, .int .i64 wd, .int .u64 v] w fun e w' => e = .returned (.bool (storeM c S k li wd v).2.hit) ∧ MTS W w c sy F (storeM c S k li wd v).1 w' := by
  unfold storeM
  cases hp : portAt c S k with
  | none => exact (mstore_no hm k li wd v (hI.portNone hp)).mono fun e w' h => ⟨h.1, MS.same9 hm (h.2 ▸ Chg.refl [] w)⟩
  | some x =>
    obtain ⟨j, rfl, hj, hx, hat, hP, _⟩ := hI.port hp
    have hQj := hQ j hj
    rw [hat] at hQj
    have hus : x.s.2 ≤ 1000000000 := by have := hP.us; omega
    have hq : x.up.length < 1000 := by have := hQj.1; omega
    have h64 := hI.ok.li64
    dsimp only
    by_cases hl : inB li c.li = true
    · rw [if_pos hl]
      have hms : (storeF c.se c.wa x.s li wd v).2.2.length ≤ 1 ∧ ∀ m ∈ (storeF c.se c.wa x.s li wd v).2.2, mg m = true := by
        obtain ⟨_, ⟨_, _, _, _, b4, _, _⟩ | ⟨_, b2⟩⟩ := hP.aj.storeF (inB_iff.1 hl).2 wd v
        · rw [b4]; exact ⟨Nat.zero_le _, fun m hm => by cases hm⟩
        · exact b2.msgs h64
      exact mstore_ok hm j li wd v x hx hT.1 hl hus hq hms.2 hms.1
    · rw [if_neg hl]
      exact (mstore_off hm j li wd v hj (by simpa using hl)).mono fun e w' h => ⟨h.1, MS.same9 hm (h.2 ▸ Chg.refl [] w)⟩
theorem sevict9 (hn : n ≤ 1000000000) (hQ : Short c S) (hT : Tabs W) (k li : Int) :
    Calls Tryz.prog 32 #[.pointer (some ⟨sy, 0, none⟩), .int .i64 k, .int .i64 li] w fun e w' => e = .returned (.int .i64 (evictM c S k li).2.e) ∧ MTS W w c sy F (evictM c S k li).1 w' := by
  unfold evictM
  cases hp : portAt c S k with
  | none => exact (mevict_no hm k li (hI.portNone hp)).mono fun e w' h => ⟨h.1, MS.same9 hm (h.2 ▸ Chg.refl [] w)⟩
  | some x =>
    obtain ⟨j, rfl, hj, hx, hat, hP, _⟩ := hI.port hp
    have hQj := hQ j hj
    rw [hat] at hQj
    have hus : x.s.2 ≤ 1000000000 := by have := hP.us; omega
    have hq : x.up.length < 1000 := by have := hQj.1; omega
    have h64 := hI.ok.li64
    dsimp only
    by_cases hl : inB li c.li = true
    · rw [if_pos hl]
      obtain ⟨_, b⟩ := hP.aj.evictF li
      exact mevict_ok hm j li x hx hT.1 hl hus hq (b.msgs h64).2 (b.msgs h64).1
    · rw [if_neg hl]
      exact (mevict_off hm j li hj (by simpa using hl)).mono fun e w' h => ⟨h.1, MS.same9 hm (h.2 ▸ Chg.refl [] w)⟩
theorem sflush9 (hn : n ≤ 1000000000) (hQ : Short c S) (hT : Tabs W) (k li kd : Int) :
    Calls Tryz.prog 30 #[.pointer (some ⟨sy, 0, none⟩), .int .i64 k, .int .i64 li, .int .i64 kd] w fun e w' => e = .returned (.int .i64 (flushM c S k li kd).2.e) ∧ MTS W w c sy F (flushM c S k li kd).1 w' := by
  unfold flushM
  cases hp : portAt c S k with
  | none => exact (mflush_no hm k li kd (hI.portNone hp)).mono fun e w' h => ⟨h.1, MS.same9 hm (h.2 ▸ Chg.refl [] w)⟩
  | some x =>
    obtain ⟨j, rfl, hj, hx, hat, hP, _⟩ := hI.port hp
    have hQj := hQ j hj
    rw [hat] at hQj
    have hus : x.s.2 ≤ 1000000000 := by have := hP.us; omega
    have hq : x.up.length < 1000 := by have := hQj.1; omega
    have h64 := hI.ok.li64
    dsimp only
    by_cases hl : inB li c.li = true
    · by_cases hk : kd = 4 ∨ kd = 5
      · rw [if_pos ⟨hl, hk⟩]
        have hmg := (hI.flush hj hx hl hk).2
        rcases hk with rfl | rfl
        · exact mflush_4 hm j li x hx hT.1 hl hq hmg
        · exact mflush_5 hm j li x hx hT.1 hl hq hmg
      · rw [if_neg (fun h => hk h.2)]
        exact (mflush_kind hm j li kd hj hl (fun h => hk (.inl h)) (fun h => hk (.inr h))).mono fun e w' h => ⟨h.1, MS.same9 hm (h.2 ▸ Chg.refl [] w)⟩
    · rw [if_neg (fun h => hl h.1)]
      exact (mflush_off hm j li kd hj (by simpa using hl)).mono fun e w' h => ⟨h.1, MS.same9 hm (h.2 ▸ Chg.refl [] w)⟩
theorem sup9 (hn : n ≤ 1000000000) (hQ : Short c S) (hT : Tabs W) (k : Int) :
    Calls Tryz.prog 35 #[.pointer (some ⟨sy, 0, none⟩), .int .i64 k] w fun e w' => e = .returned (.int .i64 (upM c S k).2.e) ∧ MTS W w c sy F (upM c S k).1 w' := by
  unfold upM
  cases hp : portAt c S k with
  | none => exact (mup_no hm k (hI.portNone hp)).mono fun e w' h => ⟨h.1, MS.same9 hm (h.2 ▸ Chg.refl [] w)⟩
  | some x =>
    obtain ⟨j, rfl, hj, hx, hat, hP, _⟩ := hI.port hp
    have hQj := hQ j hj
    rw [hat] at hQj
    have hus : x.s.2 ≤ 1000000000 := by have := hP.us; omega
    have hq : x.up.length < 1000 := by have := hQj.1; omega
    have h64 := hI.ok.li64
    dsimp only
    cases hu : x.up with
    | nil => exact (mup_none hm j x hx hu).mono fun e w' h => ⟨h.1, MS.same9 hm h.2⟩
    | cons m rest =>
      obtain ⟨i, e, hi, hic, he, hc⟩ := hI.up hj hx hu
      have ei : i = m.li.toNat := by omega
      subst ei
      dsimp only
      rw [he]
      dsimp only
      have hX : ln (over S.xs S.es) m.li.toNat = lnG S.X m.li.toNat := (lnG_eq (hI.ln8 hic)).symm
      rcases hc with ⟨_, h2⟩ | ⟨_, o, a, e', h2, h3, h4, _⟩
      · rw [h2, if_neg (by decide)]
        refine (mup_go hm j m.li.toNat x hx m rest e enZ (lnG S.X m.li.toNat) (lnG_len _ _) [] 15 hT.1 hu (by omega) hi he hX h2 (fun d hd => by cases hd) 1 (hQ.dnB hI) (by show 1 + 0 ≤ 1000; omega)).mono fun r w' hr => ?_
        rcases hr with ⟨_, q2, q3⟩ | ⟨q1, _⟩
        · exact ⟨q2, q3⟩
        · exact absurd q1 (by decide)
      · rw [h2, if_pos rfl]
        refine (mup_go hm j m.li.toNat x hx m rest e e' (lnG S.X m.li.toNat) (lnG_len _ _) (tellL o a) 0 hT.1 hu (by omega) hi he hX h2 (tellL_to h4 h3.1) 1 (hQ.dnB hI) (by have := tellL_len o a; omega)).mono fun r w' hr => ?_
        rcases hr with ⟨q1, _⟩ | ⟨_, q2, q3⟩
        · exact absurd rfl q1
        · exact ⟨q2, q3⟩
theorem sanswer9 (hn : n ≤ 1000000000) (hQ : Short c S) (hT : Tabs W) (k : Int) :
    Calls Tryz.prog 37 #[.pointer (some ⟨sy, 0, none⟩), .int .i64 k] w fun e w' => e = .returned (.int .i64 (answerM c S k).2.e) ∧ MTS W w c sy F (answerM c S k).1 w' := by
  unfold answerM
  cases hp : portAt c S k with
  | none => exact (manswer_no hm k (hI.portNone hp)).mono fun e w' h => ⟨h.1, MS.same9 hm (h.2 ▸ Chg.refl [] w)⟩
  | some x =>
    obtain ⟨j, rfl, hj, hx, hat, hP, _⟩ := hI.port hp
    have hQj := hQ j hj
    rw [hat] at hQj
    have hus : x.s.2 ≤ 1000000000 := by have := hP.us; omega
    have hq : x.up.length < 1000 := by have := hQj.1; omega
    have h64 := hI.ok.li64
    dsimp only
    cases hu : x.an with
    | nil =>
      refine (manswer_none hm j x hx hu).mono fun e w' h => ⟨h.1, ?_⟩
      have e1 : S.ps.set j { x with an := [] } = S.ps := by
        have : ({ x with an := [] } : Pt) = x := by rw [← hu]
        rw [this]
        obtain ⟨h1, h2⟩ := List.getElem?_eq_some_iff.1 hx
        rw [← h2]; exact List.set_getElem_self h1
      have h2 := h.2
      rw [e1] at h2
      exact h2
    | cons m rest =>
      obtain ⟨i, e, hi, hic, he, o, a, e', h2, h3, h4, _⟩ := hI.answer hj hx hu
      have ei : i = m.li.toNat := by omega
      subst ei
      dsimp only
      rw [he]
      dsimp only
      rw [h2, if_pos rfl]
      refine (manswer_go hm j m.li.toNat x hx m rest e e' (tellL o a) 0 hT.1 hu (by have := hQj.2.1; omega) hi he h2 (tellL_to h4 h3.1) 1 (hQ.dnB hI) (by have := tellL_len o a; omega)).mono fun r w' hr => ?_
      rcases hr with ⟨q1, _⟩ | ⟨_, q2, q3⟩
      · exact absurd rfl q1
      · exact ⟨q2, q3⟩
theorem shear9 (hn : n ≤ 1000000000) (hQ : Short c S) (hT : Tabs W) (k : Int) :
    Calls Tryz.prog 36 #[.pointer (some ⟨sy, 0, none⟩), .int .i64 k] w fun e w' => e = .returned (.tuple #[.agg (msc (hearM c S k).2.m), .int .i64 (hearM c S k).2.e]) ∧ MTS W w c sy F (hearM c S k).1 w' := by
  unfold hearM
  cases hp : portAt c S k with
  | none => exact (mhear_no hm k (hI.portNone hp)).mono fun e w' h => ⟨h.1, MS.same9 hm h.2⟩
  | some x =>
    obtain ⟨j, rfl, hj, hx, hat, hP, _⟩ := hI.port hp
    have hQj := hQ j hj
    rw [hat] at hQj
    have hus : x.s.2 ≤ 1000000000 := by have := hP.us; omega
    have hq : x.up.length < 1000 := by have := hQj.1; omega
    have h64 := hI.ok.li64
    dsimp only
    cases hu : x.dn with
    | nil =>
      refine (mhear_none hm j x hx hu).mono fun e w' h => ⟨h.1, ?_⟩
      have e1 : S.ps.set j { x with dn := [] } = S.ps := by
        have : ({ x with dn := [] } : Pt) = x := by rw [← hu]
        rw [this]
        obtain ⟨h1, h2⟩ := List.getElem?_eq_some_iff.1 hx
        rw [← h2]; exact List.set_getElem_self h1
      have h2 := h.2
      rw [e1] at h2
      exact h2
    | cons m rest =>
      obtain ⟨_, h2, h3, h4, _⟩ := hI.hear hj hx hu
      dsimp only
      rw [if_pos h2]
      refine (mhear_go hm j x hx m rest (hearF c.se c.wa x.s m).1 (hearF c.se c.wa x.s m).2.1 0 hT hu (by have := hQj.2.2; omega) hus (by rw [← h2]) h3 (by have := hQj.2.1; omega) h4).mono fun r w' hr => ?_
      rcases hr with ⟨q1, _⟩ | ⟨_, q2, q3⟩
      · exact absurd rfl q1
      · exact ⟨q2, q3⟩
theorem spush9 (hn : n ≤ 1000000000) (hQ : Short c S) (hT : Tabs W) (li : Int) :
    Calls Tryz.prog 50 #[.pointer (some ⟨sy, 0, none⟩), .int .i64 li] w fun e w' => e = .returned (.int .i64 (pushM c S li).2.e) ∧ MTS W w c sy F (pushM c S li).1 w' := by
  unfold pushM
  by_cases hl : inB li c.li = true
  · rw [if_pos hl]
    obtain ⟨l0, ln⟩ := inB_iff.1 hl
    obtain ⟨i, rfl⟩ : ∃ i : Nat, li = (i : Int) := ⟨li.toNat, by omega⟩
    rw [Int.toNat_natCast]
    have hic : i < c.li := by omega
    obtain ⟨e, he, _⟩ := hI.entry hic
    rw [he]
    dsimp only
    by_cases hr : readyE e = true
    · rw [if_pos hr]
      obtain ⟨p1, p2, p3, _⟩ := hI.push hic he hr
      have hg := mpush_go hm i e hT.1 he hr p1 p2 p3 (saveV c S.es i e) rfl (saveEs c S.es i e) rfl 1 (hQ.dnB hI) (by omega)
      by_cases hv : saveV c S.es i e = 0
      · rw [if_pos hv]
        refine hg.mono fun r w' h => ?_
        rcases h with ⟨q1, _⟩ | ⟨_, q2, q3⟩
        · exact absurd hv q1
        · refine ⟨q2, ?_⟩
          rw [← tell_one p1] at q3
          exact q3
      · rw [if_neg hv]
        refine hg.mono fun r w' h => ?_
        rcases h with ⟨_, q2, q3⟩ | ⟨q1, _⟩
        · exact ⟨q2, q3⟩
        · exact absurd q1 hv
    · rw [if_neg hr]
      exact (mpush_wait hm i e hT.1 he (by simpa using hr)).mono fun e w' h => ⟨h.1, MS.same9 hm h.2⟩
  · rw [if_neg hl]
    exact (mpush_off hm li (by simpa using hl)).mono fun e w' h => ⟨h.1, MS.same9 hm (h.2 ▸ Chg.refl [] w)⟩
theorem sdrop9 (hn : n ≤ 1000000000) (hQ : Short c S) (hT : Tabs W) (li : Int) :
    Calls Tryz.prog 31 #[.pointer (some ⟨sy, 0, none⟩), .int .i64 li] w fun e w' => e = .returned (.int .i64 (dropM c S li).2.e) ∧ MTS W w c sy F (dropM c S li).1 w' := by
  unfold dropM
  by_cases hl : inB li c.li = true
  · rw [if_pos hl]
    obtain ⟨l0, ln⟩ := inB_iff.1 hl
    obtain ⟨i, rfl⟩ : ∃ i : Nat, li = (i : Int) := ⟨li.toNat, by omega⟩
    rw [Int.toNat_natCast]
    have hic : i < c.li := by omega
    obtain ⟨e, he, _⟩ := hI.entry hic
    rw [he]
    dsimp only
    by_cases hr : keptE e = true
    · rw [if_pos hr]
      exact (mdrop_kept hm i e he hr).mono fun e w' h => ⟨h.1, MS.same9 hm h.2⟩
    · rw [if_neg hr]
      have hg := mdrop_go hm i e hT.1 he (by simpa using hr) (saveV c S.es i e) rfl (saveEs c S.es i e) rfl 1 (hQ.dnB hI) (by omega)
      by_cases hv : saveV c S.es i e = 0
      · rw [if_pos hv]
        refine hg.mono fun r w' h => ?_
        rcases h with ⟨q1, _⟩ | ⟨_, q2, q3⟩
        · exact absurd hv q1
        · exact ⟨q2, q3⟩
      · rw [if_neg hv]
        refine hg.mono fun r w' h => ?_
        rcases h with ⟨_, q2, q3⟩ | ⟨q1, _⟩
        · exact ⟨q2, q3⟩
        · exact absurd q1 hv
  · rw [if_neg hl]
    exact (mdrop_off hm li (by simpa using hl)).mono fun e w' h => ⟨h.1, MS.same9 hm (h.2 ▸ Chg.refl [] w)⟩
theorem sdrain9 (hn : n ≤ 1000000000) (hQ : Short c S) (hT : Tabs W) (li : Int) :
    Calls Tryz.prog 51 #[.pointer (some ⟨sy, 0, none⟩), .int .i64 li] w fun e w' => e = .returned (.int .i64 (drainM c S li).2.e) ∧ MTS W w c sy F (drainM c S li).1 w' := by
  unfold drainM
  have _hI := hI
  by_cases hl : inB li c.li = true
  · rw [if_pos hl]
    exact mdrain_ok hm li hl
  · rw [if_neg hl]
    exact (mdrain_off hm li (by simpa using hl)).mono fun e w' h => ⟨h.1, MS.same9 hm (h.2 ▸ Chg.refl [] w)⟩
end
end Go.Proofs.YtadeoflkppiflaaGreatDoor
end
section
namespace Go.Proofs.YtadeoflkppiflaaGreatDoor
open Go.RowKit
set_option linter.unusedVariables false
set_option maxHeartbeats 1000000
set_option maxRecDepth 100000
attribute [local go_sem ↓] append_appS copy_copS clear_clrS make_mkS cell_row frozen_row loadLine storeLine loadSlot storeSlot heap_drew heap_drewN heap_alloc heap_past heap_setCell heap_putRow vs_get slc_st slc_li slc_us slice_slS loadMsg storeMsg loadHas storeHas msc_kd msc_li msc_di msc_ke
attribute [local go_sem] rowCell_some rowFrozen_some rowHas_some rowIn_some rowPart_full rowPart_lit rowPut_full rowPut_lit rowSet_some size_putRow vs_size vs_one wideLine wideSlot run_loadS run_storeS run_appS run_copS run_clrS run_mkS loadW_at storeW_at fit_all fit_le one_int one_bool one_pointer one_slice allOne_list putRow_new ne_size1 ne_size2 ne_size3 ne_size4 zero8_length lines_nil line_eq lit8 slc_size slc_one slc_part slc_in fold_slt fold_slc slc_set_us wideMsg wideHas run_slS msc_size msc_one msc_part msc_in fold_msc msc_putDi msc_putKe msc_putX msc_has ms4_lit
attribute [local simp ↓] heap_drew heap_drewN heap_alloc heap_past heap_setCell heap_putRow
attribute [local simp] rowCell_some rowFrozen_some rowHas_some rowIn_some rowPart_full rowPart_lit rowPut_full rowPut_lit rowSet_some size_putRow vs_size fit_all putRow_new ne_size1 ne_size2 ne_size3 ne_size4 zero8_length slc_size msc_size msc_putDi msc_putKe msc_putX msc_has fit_le
attribute [local go_sem ↓] ec_he ec_di ec_ow ec_sh ec_bu ec_by ec_wa sc_to
attribute [local go_sem] mi_and mi_or mi_not mi_beq0 mi_bne0 ec_size ec_one ec_part ec_in ec_has ec_setDi ec_setOw ec_setSh ec_setBu ec_setBy ec_setWa ec_setSh0 ec_setWa0 ec_putM sc_size sc_one sc_part sc_in
attribute [local simp] ec_size sc_size ec_setDi ec_setOw ec_setSh ec_setBu ec_setBy ec_setWa ec_setSh0 ec_setWa0 ec_putM
attribute [local go_sem ↓] loadEn storeEn loadSd storeSd en_z0
attribute [local go_sem] wideEn wideSd fold_sc size11 putRow_newB putRow_newC ms5_lit
attribute [local simp] en_z0 putRow_newB putRow_newC fit_le ec_has



attribute [local go_sem ↓] mlitZ zenc_po zenc_en zenc_q
attribute [local simp] mlitZ

attribute [local go_sem ↓] mst_z0 storeMst loadMst mstc_0 mstc_1 mstc_2 mstc_3 mstc_4 loadCg cg_li cg_vo cg_qu cg_co0
attribute [local simp] mst_z0 mstc_sizeN cg_sizeN
attribute [local go_sem] fold_mst wideMst mstc_sizeN mstc_one mstc_part wideCg cg_sizeN cg_one cg_part

theorem MTS.go {W w0 w1 w2 : World} {c : Cg} {sy : Nat} {F F1 : List Nat} {S S' : Mst} (hm : MS W w1 c sy F1 S) (hc : Chg F w0 w1) (hk : ∀ k ∈ F1, k ∈ F ∨ w0.heap.size ≤ k) (h : MTS W w1 c sy F1 S' w2) : MTS W w0 c sy F S' w2 := MemTo.trans hm hc hk h
set_option maxHeartbeats 4000000 in
theorem settle_any {W w : World} {c : Cg} {sy n : Nat} {F : List Nat} {S : Mst} {cur : Nat → List Int} {C L : Nat → Nat → Mst → Prop} (hm : MS W w c sy F S) (hI : Inv c n S cur) (hn : n + 300 ≤ 1000000000) (h12 : c.li ≤ 12) (hT : Tabs W) (hF : Fam c cur C L) (h0 : C 0 0 S) :
    Calls Tryz.prog 29 #[.pointer (some ⟨sy, 0, none⟩), .agg c.cells] w fun e w' => e = .returned (.tuple #[]) ∧ ∃ S', MTS W w c sy F S' w' ∧ Inv c (n + 288) S' cur ∧ C 6 0 S' := by
  have HT := Lib.hid hT
  have HFm := Lib.hid hF
  have HN := Lib.hid hn
  have H12 := Lib.hid h12
  have H8 := Lib.hid hI.ok.co8
  have g8 : (c.co : Int) ≤ 8 := by have := H8.out; omega
  have g12 : (c.li : Int) ≤ 12 := by omega
  have HW := Lib.hid (Mem.chg hm).size
  have HO := Lib.hid (Mem.old hm)
  have r1 : (w.alloc (.cells c.cells 23)).heap[w.heap.size]? = some (.cells c.cells 23 (0, 0)) := new_blk _ _
  have C1 := Lib.hid ((Chg.refl [] w).alloc (.cells c.cells 23))
  have M1 := Lib.hid (show MS W (w.alloc (.cells c.cells 23)) c sy F S from Mem.keep hm C1.out)
  have NB := Lib.hid (show w.heap.size ∉ F from fun h => Nat.lt_irrefl _ (HO.out _ h))
  have I0 := Lib.hid hI
  have K0 := Lib.hid h0
  clear hm hI hn h12 hT hF h0
  go_enter Tryz.func29, Tryz.ntmps29
  try dsimp only [List.append]
  go_wp2_with fail
  generalize w.heap.size = b at r1 NB ⊢
  generalize w.alloc (.cells c.cells 23) = w1 at r1 C1 M1 ⊢
  have o1 := old r1
  go_wp2_with fail
  go_loopw [4] (fun i wr => ∃ (t : Nat) (F1 : List Nat) (S1 : Mst), t ≤ 6 ∧ i = .int .i64 t ∧ MS W wr c sy F1 S1 ∧ (Chg F w1 wr ∧ ∀ k ∈ F1, k ∈ F ∨ w1.heap.size ≤ k) ∧ Inv c (n + t * 48) S1 cur ∧ C t 0 S1) (fun i _ => 6 - (intOf i).toNat)
  case atStart => exact ⟨0, F, S, by omega, rfl, M1.out, ⟨Chg.refl _ _, fun k hk => .inl hk⟩, by simpa using I0.out, K0.out⟩
  case round =>
    obtain ⟨t, F1, S1, ht, rfl, hm, hc, hI, hC⟩ := hrel
    have HM := Lib.hid hm
    have HC := Lib.hid hc
    have HI := Lib.hid hI
    have HP := Lib.hid hC
    have r2 := hc.1.keep r1 NB.out
    have o2 := old r2
    clear hm hc hI hC M1 I0 K0
    have gt0 : (0 : Int) ≤ (t : Int) := by omega
    by_cases hlt : t < 6
    · have tt : decide (t < 6) = true := by simpa using hlt
      have gt1 : (t : Int) < 6 := by omega
      go_wp2_with fail
      rename World => w2
      go_loopw [5] (fun i wr => ∃ (j : Nat) (F2 : List Nat) (S2 : Mst), j ≤ c.co ∧ i = .int .i64 j ∧ MS W wr c sy F2 S2 ∧ (Chg F w1 wr ∧ ∀ k ∈ F2, k ∈ F ∨ w1.heap.size ≤ k) ∧ Inv c (n + t * 48 + j * 3) S2 cur ∧ C t j S2) (fun i _ => c.co - (intOf i).toNat)
      case atStart => exact ⟨0, F1, S1, by omega, rfl, HM.out, HC.out, by simpa using HI.out, HP.out⟩
      case round =>
        obtain ⟨j, F2, S2, hj, rfl, hm, hc, hI, hC⟩ := hrel
        have HM2 := Lib.hid hm
        have HC2 := Lib.hid hc
        have HI2 := Lib.hid hI
        have HP2 := Lib.hid hC
        have r3 := hc.1.keep r1 NB.out
        have o3 := old r3
        clear hm hc hI hC r2 o2
        have gj0 : (0 : Int) ≤ (j : Int) := by omega
        by_cases hjl : j < c.co
        · have tj : decide (j < c.co) = true := decide_eq_true hjl
          have gj1 : (j : Int) < (c.co : Int) := by omega
          have HJ := Lib.hid hjl
          have NN := Lib.hid (show n + t * 48 + j * 3 + 2 ≤ 1000000000 by have := HN.out; have := H8.out; omega)
          have TU := Lib.hid (HFm.out.tc t j S2 _ hjl HI2.out HP2.out)
          clear hjl
          go_wp2_with fail
          clear r3 o3
          refine (sup9 HM2.out HI2.out (by have := NN.out; omega) (HFm.out.sc _ _ _ HP2.out) HT.out j).mono ?_
          rintro e w3 ⟨rfl, m3⟩
          have I3 := Lib.hid (HI2.out.upM j).1
          obtain ⟨F3, hm3, hc3, hk3⟩ := MTS.go HM2.out HC2.out.1 HC2.out.2 m3
          have HM3 := Lib.hid (show MS W w3 c sy F3 (upM c S2 j).1 from hm3)
          have HC3 := Lib.hid (show Chg F w1 w3 ∧ ∀ k ∈ F3, k ∈ F ∨ w1.heap.size ≤ k from ⟨hc3, hk3⟩)
          clear m3 hm3 hc3 hk3
          go_wp2_with fail
          refine (sanswer9 HM3.out I3.out (by have := NN.out; omega) TU.out.1 HT.out j).mono ?_
          rintro e w4 ⟨rfl, m4⟩
          have I4 := Lib.hid (I3.out.answerM j).1
          obtain ⟨F4, hm4, hc4, hk4⟩ := MTS.go HM3.out HC3.out.1 HC3.out.2 m4
          have HM4 := Lib.hid (show MS W w4 c sy F4 (answerM c (upM c S2 j).1 j).1 from hm4)
          have HC4 := Lib.hid (show Chg F w1 w4 ∧ ∀ k ∈ F4, k ∈ F ∨ w1.heap.size ≤ k from ⟨hc4, hk4⟩)
          clear m4 hm4 hc4 hk4
          go_wp2_with fail
          refine (shear9 HM4.out I4.out (by have := NN.out; omega) TU.out.2.1 HT.out j).mono ?_
          rintro e w5 ⟨rfl, m5⟩
          have I5 := Lib.hid (I4.out.hearM j).1
          obtain ⟨F5, hm5, hc5, hk5⟩ := MTS.go HM4.out HC4.out.1 HC4.out.2 m5
          have HM5 := Lib.hid (show MS W w5 c sy F5 (hearM c (answerM c (upM c S2 j).1 j).1 j).1 from hm5)
          have HC5 := Lib.hid (show Chg F w1 w5 ∧ ∀ k ∈ F5, k ∈ F ∨ w1.heap.size ≤ k from ⟨hc5, hk5⟩)
          clear m5 hm5 hc5 hk5
          go_wp2_with fail
          go_roundw
          case rel => exact ⟨j + 1, F5, _, by have := HJ.out; omega, by go_num, HM5.out, HC5.out, I5.out.mono (by omega), TU.out.2.2⟩
          case measure => have := HJ.out; simp [intOf]; omega
        · obtain rfl : j = c.co := by omega
          have tj : decide (c.co < c.co) = false := by simp
          have HL := Lib.hid (HFm.out.dc t S2 _ HI2.out HP2.out)
          go_wp2_with fail
          rename World => w3
          go_loopw [6] (fun i wr => ∃ (j : Nat) (F2 : List Nat) (S2 : Mst), j ≤ c.li ∧ i = .int .i64 j ∧ MS W wr c sy F2 S2 ∧ (Chg F w1 wr ∧ ∀ k ∈ F2, k ∈ F ∨ w1.heap.size ≤ k) ∧ Inv c (n + t * 48 + 24 + j * 2) S2 cur ∧ L t j S2) (fun i _ => c.li - (intOf i).toNat)
          case atStart => exact ⟨0, F2, S2, by omega, rfl, HM2.out, HC2.out, HI2.out.mono (by have := H8.out; omega), HL.out⟩
          case round =>
            clear HM2 HC2 HI2 HP2 HL
            obtain ⟨j, F2, S2, hj, rfl, hm, hc, hI, hC⟩ := hrel
            have HM2 := Lib.hid hm
            have HC2 := Lib.hid hc
            have HI2 := Lib.hid hI
            have HP2 := Lib.hid hC
            have r4 := hc.1.keep r1 NB.out
            have o4 := old r4
            clear hm hc hI hC r3 o3 tj
            have gj2 : (0 : Int) ≤ (j : Int) := by omega
            by_cases hjl : j < c.li
            · have tj : decide (j < c.li) = true := decide_eq_true hjl
              have gj1 : (j : Int) < (c.li : Int) := by omega
              have HJ := Lib.hid hjl
              have NN := Lib.hid (show n + t * 48 + 24 + j * 2 + 2 ≤ 1000000000 by have := HN.out; have := H12.out; omega)
              have TU := Lib.hid (HFm.out.tl t j S2 _ hjl HI2.out HP2.out)
              clear hjl
              go_wp2_with fail
              clear r4 o4
              refine (spush9 HM2.out HI2.out (by have := NN.out; omega) (HFm.out.sl _ _ _ HP2.out) HT.out j).mono ?_
              rintro e w4 ⟨rfl, m4⟩
              have I4 := Lib.hid (HI2.out.pushM j)
              obtain ⟨F4, hm4, hc4, hk4⟩ := MTS.go HM2.out HC2.out.1 HC2.out.2 m4
              have HM4 := Lib.hid (show MS W w4 c sy F4 (pushM c S2 j).1 from hm4)
              have HC4 := Lib.hid (show Chg F w1 w4 ∧ ∀ k ∈ F4, k ∈ F ∨ w1.heap.size ≤ k from ⟨hc4, hk4⟩)
              clear m4 hm4 hc4 hk4
              go_wp2_with fail
              refine (sdrain9 HM4.out I4.out (by have := NN.out; omega) TU.out.1 HT.out j).mono ?_
              rintro e w5 ⟨rfl, m5⟩
              have I5 := Lib.hid (I4.out.drainM j)
              obtain ⟨F5, hm5, hc5, hk5⟩ := MTS.go HM4.out HC4.out.1 HC4.out.2 m5
              have HM5 := Lib.hid (show MS W w5 c sy F5 (drainM c (pushM c S2 j).1 j).1 from hm5)
              have HC5 := Lib.hid (show Chg F w1 w5 ∧ ∀ k ∈ F5, k ∈ F ∨ w1.heap.size ≤ k from ⟨hc5, hk5⟩)
              clear m5 hm5 hc5 hk5
              go_wp2_with fail
              go_roundw
              case rel => exact ⟨j + 1, F5, _, by have := HJ.out; omega, by go_num, HM5.out, HC5.out, I5.out.mono (by omega), TU.out.2⟩
              case measure => have := HJ.out; simp [intOf]; omega
            · obtain rfl : j = c.li := by omega
              have tj : decide (c.li < c.li) = false := by simp
              have HL := Lib.hid (HFm.out.dl t S2 HP2.out)
              go_wp2_with fail
              go_roundw
              case rel => exact ⟨t + 1, F2, S2, by omega, by go_num, HM2.out, HC2.out, HI2.out.mono (by have := H12.out; omega), HL.out⟩
              case measure => simp [intOf]; omega
    · have tt : decide (t < 6) = false := decide_eq_false hlt
      have HT6 := Lib.hid (show t = 6 by omega)
      go_wp2_with fail
      refine bodyPost_end (results_none rfl _ _ _) rfl ?_
      obtain rfl := HT6.out
      exact ⟨rfl, S1, MTS.wrap HW.out HO.out C1.out ⟨F1, HM.out, HC.out.1, HC.out.2⟩ [] (fun b hb => (by cases hb)) (Chg.refl _ _), HI.out, HP.out⟩
end Go.Proofs.YtadeoflkppiflaaGreatDoor
end
section
namespace Go.Proofs.YtadeoflkppiflaaGreatDoor
open Go.RowKit
set_option linter.unusedVariables false
set_option maxHeartbeats 1000000

section
variable {c : Cg} {n : Nat} {S : Mst} {cur : Nat → List Int} (h : Inv c n S cur) (hq : Quiet c S) {k i : Nat} (hk : k < c.co) (hi : i < c.li)
include h hk
/-- One port is another one. -/
theorem put_ps (x : Pt) : (S.put (k : Int) x).ps = S.ps.set k x ∧ (S.put (k : Int) x).en = S.en ∧ (S.put (k : Int) x).es = S.es ∧ (S.put (k : Int) x).xs = S.xs ∧ ∀ j, atP (S.put (k : Int) x).ps j = if j = k then x else atP S.ps j := by
  have e : (S.put (k : Int) x).ps = S.ps.set k x := by unfold Mst.put; rw [Int.toNat_natCast]
  refine ⟨e, rfl, rfl, rfl, fun j => ?_⟩
  rw [e]
  exact atP_set (by rw [h.co]; exact hk) x j
include hq
theorem Quiet.ask {Z : Prop} (hz : Z → S.es = []) (s' : Sta) (m : Ms) : PA c k i m S.en s' Z (S.put (k : Int) { atP S.ps k with s := s', up := [m] }) := by
  obtain ⟨_, e2, e3, _, e5⟩ := put_ps h hk { atP S.ps k with s := s', up := [m] }
  refine ⟨fun j hj => ?_, e2, ?_, fun z => by rw [e3]; exact hz z⟩
  · rw [e5]
    by_cases hjk : j = k
    · rw [if_pos hjk, if_pos hjk]
      exact ⟨rfl, (hq.q k hk).2.1, (hq.q k hk).2.2⟩
    · rw [if_neg hjk, if_neg hjk]
      exact hq.q j hj
  · rw [e5, if_pos rfl]
theorem Quiet.with (s' : Sta) : Quiet c (S.put (k : Int) { atP S.ps k with s := s' }) := by
  obtain ⟨_, e2, _, _, e5⟩ := put_ps h hk { atP S.ps k with s := s' }
  refine ⟨fun j hj => ?_, fun e he => hq.bu e (by rw [← e2]; exact he)⟩
  rw [e5]
  by_cases hjk : j = k
  · rw [if_pos hjk]
    exact hq.q k hk
  · rw [if_neg hjk]
    exact hq.q j hj
/-- A line is put out. -/
theorem Quiet.out {v : Int} (hr : atRest (findVal (atP S.ps k).s.1 v).st = true) : ∃ (p : Nat) (m : Ms) (sK : Sta), outF c.se c.wa (atP S.ps k).s v = (sK, [m]) ∧ v = (p : Int) ∧ p < c.li ∧ m.li = (p : Int) ∧ m.kd = 3 ∧ ((findVal (atP S.ps k).s.1 v).st = 3 → m.di = true) ∧ ∀ li : Int, 0 ≤ li → setOf c.se v = setOf c.se li → roomFree c.se c.wa (dropS sK p).1 li = true := by
  have _q := hq
  have aj := (h.pt k hk).aj
  have hst := (rest_iff _).1 hr
  obtain ⟨h0, hn, hl, hd⟩ := aj.line (li := v) (by show (findVal (atP S.ps k).s.1 v).st ≠ 0; omega)
  obtain ⟨p, rfl⟩ : ∃ p : Nat, v = (p : Int) := ⟨v.toNat, by omega⟩
  have hnx : 1 ≤ outNx (findVal (atP S.ps k).s.1 p).st ∧ outNx (findVal (atP S.ps k).s.1 p).st ≤ 9 := by unfold outNx; split <;> omega
  obtain ⟨a, b⟩ := aj.vwSet h0 hnx.1 hnx.2 (.inl hd) (findVal (atP S.ps k).s.1 p).l (findVal (atP S.ps k).s.1 p).h
  refine ⟨p, toldM 3 (findVal (atP S.ps k).s.1 p) false, _, by unfold outF; rw [if_pos hr], rfl, by omega, ?_, ?_, fun h3 => ?_, fun li hli hs => ?_⟩
  · unfold toldM; split
    · exact hl
    · exact hl
  · unfold toldM; split <;> rfl
  · unfold toldM; rw [if_pos (.inl h3)]
  · refine (aj.set hn _ _ hnx.2).dropFree ?_ hs hli
    rw [a]
    show outNx _ ≠ 0
    omega
include hi
/-- A line is asked for, or another one put out. -/
theorem Quiet.get {st kd : Int} : ∃ (p : Nat) (m : Ms) (sK : Sta), getF c.se c.wa (atP S.ps k).s i st kd = (sK, [m]) ∧ p < c.li ∧ m.li = (p : Int) ∧ ((p = i ∧ m.kd = kd) ∨ (m.kd = 3 ∧ roomFree c.se c.wa (atP S.ps k).s.1 i = false ∧ roomFree c.se c.wa (dropS sK p).1 i = true)) := by
  have aj := (h.pt k hk).aj
  cases hr : roomFree c.se c.wa (atP S.ps k).s.1 i
  · obtain ⟨v1, v2⟩ := aj.victim (hq.idle h hk) (li := (i : Int)) (by omega) hr
    obtain ⟨p, m, sK, o1, _, o2, o3, o4, _, o5⟩ := hq.out h hk v1
    exact ⟨p, m, sK, by unfold getF; rw [if_neg (by simp [hr])]; exact o1, o2, o3, .inr ⟨o4, rfl, o5 i (by omega) v2⟩⟩
  · exact ⟨i, _, _, by unfold getF; rw [if_pos hr], hi, rfl, .inl ⟨rfl, rfl⟩⟩
/-- What a core that may not do it yet asks for. -/
def Asked9 (c : Cg) (k i : Nat) (kd : Int) (S S1 : Mst) : Prop :=
  ∃ (p : Nat) (m : Ms) (sK : Sta), (∀ Z : Prop, (Z → S.es = []) → PA c k p m S.en sK Z S1) ∧ p < c.li ∧ m.li = (p : Int) ∧ ((p = i ∧ m.kd = kd) ∨ (m.kd = 3 ∧ vst (atP S.ps k) i = 0 ∧ roomFree c.se c.wa (atP S.ps k).s.1 i = false ∧ roomFree c.se c.wa (dropS sK p).1 i = true)) ∧ S1.es = S.es
theorem Quiet.store {wd v : Int} (hwd : isWd wd = true) :
    ((vst (atP S.ps k) i = 2 ∨ vst (atP S.ps k) i = 3) ∧ (storeM c S k i wd v).2.hit = true ∧ Quiet c (storeM c S k i wd v).1 ∧ (storeM c S k i wd v).1.en = S.en ∧ (storeM c S k i wd v).1.es = S.es ∧ vst (atP (storeM c S k i wd v).1.ps k) i = 3) ∨
    (¬ (vst (atP S.ps k) i = 2 ∨ vst (atP S.ps k) i = 3) ∧ (storeM c S k i wd v).2.hit = false ∧ Asked9 c k i 2 S (storeM c S k i wd v).1) := by
  have aj := (h.pt k hk).aj
  have h64 := h.ok.li64
  have hin : inB (i : Int) c.li = true := inB_iff.2 ⟨by omega, by omega⟩
  have hLn : isLn (i : Int) = true := by unfold isLn; simp; omega
  have hS : storeM c S k i wd v = (S.put k { atP S.ps k with s := (storeF c.se c.wa (atP S.ps k).s i wd v).1, up := (atP S.ps k).up ++ (storeF c.se c.wa (atP S.ps k).s i wd v).2.2 }, ⟨0, (storeF c.se c.wa (atP S.ps k).s i wd v).2.1, msZ, 0⟩) := by
    unfold storeM
    rw [portAt_nat h.co hk]
    exact if_pos hin
  have hup := (hq.q k hk).1
  have hv0 := aj.sane1 (i : Int)
  have hvst : vst (atP S.ps k) i = (vw (atP S.ps k).s i).1.toNat := rfl
  rw [hS, hup, List.nil_append]
  dsimp only
  obtain ⟨a, ⟨b1, b2, _, b3, b4, b5, b6⟩ | ⟨b1, b2⟩⟩ := aj.storeF (show (i : Int) < (c.li : Int) by omega) wd v
  · left
    rw [b1, b4]
    have e0 : ({ atP S.ps k with s := (storeF c.se c.wa (atP S.ps k).s i wd v).1, up := [] } : Pt) = { atP S.ps k with s := (storeF c.se c.wa (atP S.ps k).s i wd v).1 } := by
      generalize atP S.ps k = x at hup ⊢
      cases x
      dsimp only at hup
      rw [hup]
    rw [e0]
    obtain ⟨_, e2, e3, _, e5⟩ := put_ps h hk { atP S.ps k with s := (storeF c.se c.wa (atP S.ps k).s i wd v).1 }
    refine ⟨by omega, rfl, hq.with h hk _, e2, e3, ?_⟩
    rw [e5, if_pos rfl]
    unfold vst
    rw [b5]
    rfl
  · right
    rw [b1]
    have hno : ¬ (vst (atP S.ps k) i = 2 ∨ vst (atP S.ps k) i = 3) := by
      intro hh
      have : (storeF c.se c.wa (atP S.ps k).s i wd v).2.1 = true := by
        unfold storeF
        rw [if_pos (by rw [hLn, hwd]; rfl), if_pos]
        unfold ownsB mayWr
        have : (findVal (atP S.ps k).s.1 i).st = 2 ∨ (findVal (atP S.ps k).s.1 i).st = 3 := by
          have : (vw (atP S.ps k).s i).1 = (findVal (atP S.ps k).s.1 i).st := rfl
          omega
        simpa using this
      rw [this] at b1; cases b1
    refine ⟨hno, rfl, ?_⟩
    have hnown : ownsB (atP S.ps k).s.1 i = false := by
      unfold ownsB mayWr
      have : (vw (atP S.ps k).s i).1 = (findVal (atP S.ps k).s.1 i).st := rfl
      simp
      omega
    have hsf : (storeF c.se c.wa (atP S.ps k).s i wd v).1 = (reachF c.se c.wa (atP S.ps k).s i).1 ∧ (storeF c.se c.wa (atP S.ps k).s i wd v).2.2 = (reachF c.se c.wa (atP S.ps k).s i).2 := by
      unfold storeF
      rw [if_pos (by rw [hLn, hwd]; rfl), if_neg (by simp [hnown])]
      exact ⟨rfl, rfl⟩
    rw [hsf.1, hsf.2]
    unfold reachF
    rw [if_pos (by rw [hLn, hnown, hq.idle h hk]; rfl)]
    by_cases hd : dropVal (atP S.ps k).s.1 i = true
    · rw [if_pos hd]
      exact ⟨i, _, _, fun Z hz => hq.ask h hk hz _ _, hi, rfl, .inl ⟨rfl, rfl⟩, rfl⟩
    · rw [if_neg hd]
      have h0 : vst (atP S.ps k) i = 0 := by
        rw [find_drop] at hd
        rw [hvst]
        have : (vw (atP S.ps k).s i).1 = (findVal (atP S.ps k).s.1 i).st := rfl
        rw [this]
        simp at hd
        rw [hd]; rfl
      obtain ⟨p, m, sK, g1, g2, g3, g4⟩ := hq.get h hk hi (st := 5) (kd := 2)
      rw [g1]
      refine ⟨p, m, sK, fun Z hz => hq.ask h hk hz _ _, g2, g3, ?_, rfl⟩
      rcases g4 with g4 | ⟨g4, g5, g6⟩
      · exact .inl g4
      · exact .inr ⟨g4, h0, g5, g6⟩
theorem Quiet.load {wd : Int} (hwd : isWd wd = true) :
    (vst (atP S.ps k) i ≠ 0 ∧ (loadM c S k i wd).2.hit = true ∧ (loadM c S k i wd).2.v = (cur i).getD wd.toNat 0 ∧ Quiet c (loadM c S k i wd).1 ∧ (loadM c S k i wd).1.en = S.en ∧ (loadM c S k i wd).1.es = S.es) ∨
    (vst (atP S.ps k) i = 0 ∧ (loadM c S k i wd).2.hit = false ∧ Asked9 c k i 1 S (loadM c S k i wd).1) := by
  have aj := (h.pt k hk).aj
  have h64 := h.ok.li64
  have hin : inB (i : Int) c.li = true := inB_iff.2 ⟨by omega, by omega⟩
  have hLn : isLn (i : Int) = true := by unfold isLn; simp; omega
  have hS : loadM c S k i wd = (S.put k { atP S.ps k with s := (loadF c.se c.wa (atP S.ps k).s i wd).1, up := (atP S.ps k).up ++ (loadF c.se c.wa (atP S.ps k).s i wd).2.2.2 }, ⟨(loadF c.se c.wa (atP S.ps k).s i wd).2.1, (loadF c.se c.wa (atP S.ps k).s i wd).2.2.1, msZ, 0⟩) := by
    unfold loadM
    rw [portAt_nat h.co hk]
    exact if_pos hin
  have hup := (hq.q k hk).1
  have hv0 := aj.sane1 (i : Int)
  have hvst : vst (atP S.ps k) i = (findVal (atP S.ps k).s.1 i).st.toNat := rfl
  have hf0 : 0 ≤ (findVal (atP S.ps k).s.1 i).st := hv0.1
  obtain ⟨e, he, _⟩ := h.entry hi
  have hline := hq.line h he hk
  rw [hS, hup, List.nil_append]
  dsimp only
  unfold loadF
  rw [if_pos (by rw [hLn, hwd]; rfl)]
  by_cases h0 : vst (atP S.ps k) i = 0
  · right
    have hst : (findVal (atP S.ps k).s.1 i).st = 0 := by omega
    rw [if_neg (by rw [hst]; decide), if_pos (hq.idle h hk)]
    obtain ⟨p, m, sK, g1, g2, g3, g4⟩ := hq.get h hk hi (st := 4) (kd := 1)
    rw [g1]
    refine ⟨h0, rfl, p, m, sK, fun Z hz => hq.ask h hk hz _ _, g2, g3, ?_, rfl⟩
    rcases g4 with g4 | ⟨g4, g5, g6⟩
    · exact .inl g4
    · exact .inr ⟨g4, h0, g5, g6⟩
  · left
    have h3 : vst (atP S.ps k) i ≤ 3 ∧ vln (atP S.ps k) i = cur i := by
      rcases hline with ⟨_, _, h1⟩ | ⟨_, _, h1, h2⟩ | ⟨_, _, h1, h2⟩
      · exact absurd h1 h0
      · exact ⟨by omega, h2⟩
      · exact ⟨by omega, h2⟩
    rw [if_pos (by unfold mayR; rw [(rest_iff _).2 (by omega)]; rfl)]
    have e0 : ({ atP S.ps k with s := touchS (atP S.ps k).s i, up := [] } : Pt) = { atP S.ps k with s := touchS (atP S.ps k).s i } := by
      generalize atP S.ps k = x at hup ⊢
      cases x
      dsimp only at hup
      rw [hup]
    dsimp only
    rw [e0]
    refine ⟨h0, rfl, ?_, hq.with h hk _, rfl, rfl⟩
    rw [← h3.2]
    rfl
/-- A flush is asked for. -/
theorem Quiet.flush {kd : Int} (hkd : kd = 4 ∨ kd = 5) : (flushM c S k i kd).2.e = 0 ∧ ∃ (m : Ms) (sK : Sta), (∀ Z : Prop, (Z → S.es = []) → PA c k i m S.en sK Z (flushM c S k i kd).1) ∧ m.li = (i : Int) ∧ m.kd = kd ∧ (flushM c S k i kd).1.es = S.es := by
  have hin : inB (i : Int) c.li = true := inB_iff.2 ⟨by omega, by omega⟩
  have hup := (hq.q k hk).1
  have hS : flushM c S k i kd = (S.put k { atP S.ps k with up := [ms4 kd i false false] }, did0) := by
    unfold flushM
    rw [portAt_nat h.co hk]
    dsimp only
    rw [if_pos ⟨hin, hkd⟩, hup, List.nil_append]
  rw [hS]
  exact ⟨rfl, _, (atP S.ps k).s, fun Z hz => hq.ask h hk hz (atP S.ps k).s _, rfl, rfl, rfl⟩
/-- A line is put out. -/
theorem Quiet.evict (h3 : vst (atP S.ps k) i = 3) : (evictM c S k i).2.e = 0 ∧ ∃ (m : Ms) (sK : Sta), (∀ Z : Prop, (Z → S.es = []) → PA c k i m S.en sK Z (evictM c S k i).1) ∧ m.li = (i : Int) ∧ m.kd = 3 ∧ m.di = true ∧ (evictM c S k i).1.es = S.es := by
  have hin : inB (i : Int) c.li = true := inB_iff.2 ⟨by omega, by omega⟩
  have hup := (hq.q k hk).1
  have hvst : vst (atP S.ps k) i = (findVal (atP S.ps k).s.1 i).st.toNat := rfl
  have hst : (findVal (atP S.ps k).s.1 i).st = 3 := by omega
  obtain ⟨p, m, sK, o1, o2, o3, o4, o5, o6, _⟩ := hq.out h hk (v := (i : Int)) (by rw [hst]; decide)
  have hip : p = i := by omega
  subst hip
  have hS : evictM c S k p = (S.put k { atP S.ps k with s := sK, up := [m] }, didE 0) := by
    unfold evictM
    rw [portAt_nat h.co hk]
    dsimp only
    rw [if_pos hin]
    unfold evictF
    rw [if_pos (hq.idle h hk), o1, hup]
    rfl
  rw [hS]
  exact ⟨rfl, m, sK, fun Z hz => hq.ask h hk hz sK m, o4, o5, o6 hst, rfl⟩
end
end Go.Proofs.YtadeoflkppiflaaGreatDoor
end
section
namespace Go.Proofs.YtadeoflkppiflaaGreatDoor
open Go.RowKit
set_option linter.unusedVariables false
set_option maxHeartbeats 1000000

/-- May the core do it: read (1), write (2)? -/
def Ready9 (k i : Nat) (kd : Int) (S : Mst) : Prop := (kd = 1 → vst (atP S.ps k) i ≠ 0) ∧ (kd = 2 → vst (atP S.ps k) i = 2 ∨ vst (atP S.ps k) i = 3)
/-- Is there room for the line, or is it there? -/
def Room9 (c : Cg) (k i : Nat) (S : Mst) : Prop := vst (atP S.ps k) i ≠ 0 ∨ roomFree c.se c.wa (atP S.ps k).s.1 i = true
section
variable {c : Cg} {n : Nat} {S S1 : Mst} {cur : Nat → List Int} (h : Inv c n S cur) (hq : Quiet c S) {k i : Nat} (hk : k < c.co) (hi : i < c.li)
theorem Quiet.req (h : Inv c n S cur) (hq : Quiet c S) (hk : k < c.co) (hi : i < c.li) {m : Ms} (hm : m.li = (i : Int)) {Z : Prop} (hz : m.kd = 4 ∨ m.kd = 5 → Z) : ∃ e0, S.en[i]? = some e0 ∧ Req c k i m S.en e0 Z := by
  obtain ⟨e0, he0, _⟩ := h.entry hi
  exact ⟨e0, he0, hk, hi, hm, hq.bu, he0, hz⟩
theorem Cr9.end {m : Ms} {en0 : List En} {e0 : En} {sK : Sta} {Z : Prop} {S' : Mst} (w : Cr9 c k i m en0 e0 sK Z (4 - 6) 0 S') : ∃ e, PQ c k i m en0 e0 sK Z e S' := w
theorem Asked9.way (h : Inv c n S cur) (hq : Quiet c S) (hk : k < c.co) (hi : i < c.li) {kd : Int} (hkd : kd = 1 ∨ kd = 2) (ha : Asked9 c k i kd S S1) :
    ∃ C L, Fam c cur C L ∧ C 0 0 S1 ∧ ∀ S' n', Inv c n' S' cur → C 6 0 S' → Quiet c S' ∧ (S.es = [] → S'.es = []) ∧ (Ready9 k i kd S' ∨ Room9 c k i S') ∧
      (Room9 c k i S → Ready9 k i kd S' ∧ (∀ q, q ≠ i → S'.en[q]? = S.en[q]?) ∧ ∃ e0 e, S.en[i]? = some e0 ∧ S'.en[i]? = some e ∧ (kd = 1 → e0.ow = -1 → e.di = e0.di)) := by
  obtain ⟨p, m, sK, a1, a2, a3, a4, a5⟩ := ha
  obtain ⟨e0, he0, R⟩ := hq.req h hk a2 a3 (Z := S.es = []) (by rintro h4; rcases a4 with ⟨_, h5⟩ | ⟨h5, _⟩ <;> omega)
  refine ⟨_, _, Fam.req (sK := sK) R cur, .inl ⟨a1 _ (fun z => z), Nat.zero_le _⟩, fun S' n' h' w => ?_⟩
  obtain ⟨e, w⟩ := Cr9.end w
  have hrdy : p = i → m.kd = kd → Ready9 k i kd S' := by
    rintro rfl hmk
    have hl := w.q.line h' w.at' hk
    obtain ⟨f1, f2, _⟩ := w.fin
    refine ⟨fun h1 => ?_, fun h2 => ?_⟩
    · rcases (f1 (by omega)).1 with h3 | h3
      · rcases hl with ⟨h4, _⟩ | ⟨h4, _⟩ | ⟨_, _, h4, _⟩
        · exact absurd h3 h4
        · exact absurd h3 h4
        · omega
      · rcases hl with ⟨_, h4, _⟩ | ⟨_, _, h4, _⟩ | ⟨_, h4, _⟩
        · rw [h3] at h4; cases h4
        · omega
        · rw [h3] at h4; cases h4
    · have h3 := f2 (by omega)
      rcases hl with ⟨h4, _⟩ | ⟨h4, _⟩ | ⟨_, _, h4, _⟩
      · exact absurd h3 h4
      · exact absurd h3 h4
      · exact h4
  refine ⟨w.q, w.es, ?_, fun hr => ?_⟩
  · rcases a4 with ⟨h1, h2⟩ | ⟨h1, _, _, h2⟩
    · exact .inl (hrdy h1 h2)
    · right; right
      rw [w.sk h1]
      exact h2
  · have hpi : p = i ∧ m.kd = kd := by
      rcases a4 with h1 | ⟨_, h1, h2, _⟩
      · exact h1
      · rcases hr with h3 | h3
        · exact absurd h1 h3
        · rw [h2] at h3; cases h3
    obtain ⟨rfl, hmk⟩ := hpi
    exact ⟨hrdy rfl hmk, w.oth, e0, e, he0, w.at', fun h1 h2 => (w.fin.1 (by omega)).2 h2⟩
/-- A flush's way. -/
theorem Flushed9.way (h : Inv c n S cur) (hq : Quiet c S) (hk : k < c.co) (hi : i < c.li) (hes : S.es = []) {kd : Int} (hkd : kd = 4 ∨ kd = 5) :
    ∃ C L, Fam c cur C L ∧ C 0 0 (flushM c S k i kd).1 ∧ ∀ S' n', Inv c n' S' cur → C 6 0 S' → Quiet c S' ∧ S'.es = [] ∧ ln S'.X i = cur i := by
  obtain ⟨_, m, sK, a1, a2, a3, _⟩ := hq.flush h hk hi hkd
  obtain ⟨e0, he0, R⟩ := hq.req h hk hi a2 (Z := True) (fun _ => trivial)
  refine ⟨_, _, Fam.req (sK := sK) R cur, .inl ⟨a1 _ (fun _ => hes), Nat.zero_le _⟩, fun S' n' h' w => ?_⟩
  obtain ⟨e, w⟩ := Cr9.end w
  obtain ⟨f1, f2, f3⟩ := w.fin.2.2.2 (by omega)
  have hl := h'.ln i e w.at'
  exact ⟨w.q, w.es trivial, (hl.mem1 f1 f3).trans (hl.data f1 f2)⟩
theorem owner_here {e : En} (g : goodE e = true) {k : Nat} (h : e.ow = (k : Int)) : e.he = true ∧ e.sh = 0#8 := by
  have hh : e.he = true := by
    cases hh : e.he
    · have he : e = enE := by
        unfold goodE at g
        rw [if_neg (by simp [hh])] at g
        simpa using g
      rw [he] at h
      have : (-1 : Int) = (k : Int) := h
      omega
    · rfl
  obtain ⟨g1, _⟩ := (good_here hh).1 g
  refine ⟨hh, ?_⟩
  rcases g1 with h1 | h1
  · omega
  · exact h1.2
/-- The way of a line that was written, and is put out. -/
theorem Evicted9.way (h : Inv c n S cur) (hq : Quiet c S) (hk : k < c.co) (hi : i < c.li) (h3 : vst (atP S.ps k) i = 3) :
    ∃ C L, Fam c cur C L ∧ C 0 0 (evictM c S k i).1 ∧ ∀ S' n', Inv c n' S' cur → C 6 0 S' → Quiet c S' ∧ (S.es = [] → S'.es = []) ∧ (∀ q, q ≠ i → S'.en[q]? = S.en[q]?) ∧ ∃ e, S'.en[i]? = some e ∧ e.he = true ∧ e.ow = -1 ∧ e.sh = 0#8 ∧ e.bu = 0 ∧ e.di = true := by
  obtain ⟨_, m, sK, a1, a2, a3, a4, _⟩ := hq.evict h hk hi h3
  obtain ⟨e0, he0, R⟩ := hq.req h hk hi a2 (Z := S.es = []) (by omega)
  refine ⟨_, _, Fam.req (sK := sK) R cur, .inl ⟨a1 _ (fun z => z), Nat.zero_le _⟩, fun S' n' h' w => ?_⟩
  obtain ⟨e, w⟩ := Cr9.end w
  have how : e0.ow = (k : Int) := by
    rcases hq.line h he0 hk with ⟨_, _, h4⟩ | ⟨_, _, h4, _⟩ | ⟨h4, _⟩
    · omega
    · omega
    · exact h4
  obtain ⟨g1, g2⟩ := owner_here (h.ln i e0 he0).good how
  have hb := hq.bu e0 (List.mem_of_getElem? he0)
  have he := w.fin.2.2.1 a3 g1
  refine ⟨w.q, w.es, w.oth, e, w.at', ?_⟩
  rw [he]
  unfold putE
  dsimp only
  rw [if_pos how]
  unfold writtenE
  rw [if_pos a4]
  unfold withoutE
  rw [if_pos (show ((e0.setL m.l m.h).setDi true).ow = (k : Int) from how)]
  refine ⟨g1, rfl, ?_, hb, rfl⟩
  show e0.sh &&& ~~~(bitM (k : Int)) = 0#8
  rw [g2]
  simp
end
/-- So many rounds were done, for what a core wants of a line. -/
structure Stg9 (c : Cg) (k i : Nat) (kd : Int) (S : Mst) (t : Nat) (S1 : Mst) : Prop where
  two : t ≤ 2
  zero : t = 0 → S1 = S
  one : 1 ≤ t → Ready9 k i kd S1 ∨ Room9 c k i S1
  rdy : 2 ≤ t → Ready9 k i kd S1
  room : 1 ≤ t → Room9 c k i S → Ready9 k i kd S1
  oth : Room9 c k i S → ∀ q, q ≠ i → S1.en[q]? = S.en[q]?
theorem Stg9.start (c : Cg) (k i : Nat) (kd : Int) (S : Mst) : Stg9 c k i kd S 0 S := ⟨by omega, fun _ => rfl, fun h => by omega, fun h => by omega, fun h => by omega, fun _ _ _ => rfl⟩
theorem Stg9.next {c : Cg} {k i : Nat} {kd : Int} {S : Mst} {t : Nat} {S1 S' : Mst} (g : Stg9 c k i kd S t S1) (hn : ¬ Ready9 k i kd S1) (h1 : Ready9 k i kd S' ∨ Room9 c k i S') (h2 : Room9 c k i S1 → Ready9 k i kd S' ∧ ∀ q, q ≠ i → S'.en[q]? = S1.en[q]?) : Stg9 c k i kd S (t + 1) S' := by
  have ht : t ≤ 1 := by
    have := g.two
    by_cases h3 : t = 2
    · exact absurd (g.rdy (by omega)) hn
    · omega
  refine ⟨by omega, fun h => by omega, fun _ => h1, fun h3 => ?_, fun _ hr => ?_, fun hr q hq => ?_⟩
  · rcases g.one (by omega) with h4 | h4
    · exact absurd h4 hn
    · exact (h2 h4).1
  · by_cases h3 : t = 0
    · rw [g.zero h3] at h2
      exact (h2 hr).1
    · exact absurd (g.room (by omega) hr) hn
  · by_cases h3 : t = 0
    · have e := g.zero h3
      rw [e] at h2
      exact (h2 hr).2 q hq
    · exact absurd (g.room (by omega) hr) hn
/-- The lines, when a word was written. -/
def upd9 (cur : Nat → List Int) (i d : Nat) (v : Int) : Nat → List Int := fun p => if (p : Int) = (i : Int) then (cur p).set ((d : Int)).toNat v else cur p
theorem upd9_at (cur : Nat → List Int) (i d : Nat) (v : Int) (h : d < (cur i).length) : (upd9 cur i d v i).getD d 0 = v := by
  unfold upd9
  rw [if_pos rfl, Int.toNat_natCast]
  simp [List.getD, h]
end Go.Proofs.YtadeoflkppiflaaGreatDoor
end
section
namespace Go.Proofs.YtadeoflkppiflaaGreatDoor
open Go.RowKit
set_option linter.unusedVariables false
set_option maxHeartbeats 1000000

def fresh9 (c : Cg) : Mst := ⟨List.replicate c.co (pt0 c), List.replicate c.li enE, [], List.replicate (c.li * 8) 0⟩
theorem Quiet.fresh (c : Cg) : Quiet c (fresh9 c) := by
  refine ⟨fun j hj => ?_, fun e he => ?_⟩
  · rw [show atP (fresh9 c).ps j = pt0 c from atP_of (by show (List.replicate c.co (pt0 c))[j]? = _; rw [List.getElem?_replicate, if_pos hj])]
    exact ⟨rfl, rfl, rfl⟩
  · rw [List.eq_of_mem_replicate (show e ∈ List.replicate c.li enE from he)]; rfl
theorem fresh9_en (c : Cg) (q : Nat) (hq : q < c.li) : (fresh9 c).en[q]? = some enE := by show (List.replicate c.li enE)[q]? = _; rw [List.getElem?_replicate, if_pos hq]
section
variable {c : Cg} {n : Nat} {S : Mst} {cur : Nat → List Int} (h : Inv c n S cur) (hq : Quiet c S) {k : Nat} (hk : k < c.co)
include h hq hk
/-- A core of which the directory knows nothing has nothing. -/
theorem Quiet.none (hn : ∀ (q : Nat) (e : En), S.en[q]? = some e → e.ow ≠ (k : Int) ∧ hasM e.sh k = false) (li : Int) : (vw (atP S.ps k).s li).1 = 0 := by
  have aj := (h.pt k hk).aj
  by_cases h0 : (vw (atP S.ps k).s li).1 = 0
  · exact h0
  · obtain ⟨l0, l1, _⟩ := aj.line h0
    obtain ⟨i, rfl⟩ : ∃ i : Nat, li = (i : Int) := ⟨li.toNat, by omega⟩
    obtain ⟨e, he, _⟩ := h.entry (i := i) (by omega)
    obtain ⟨n1, n2⟩ := hn i e he
    have h2 := aj.sane1 (i : Int)
    have e1 : vst (atP S.ps k) i = (vw (atP S.ps k).s i).1.toNat := rfl
    rcases hq.line h he hk with ⟨_, _, h1⟩ | ⟨_, h1, _⟩ | ⟨h1, _⟩
    · omega
    · rw [n2] at h1; cases h1
    · exact absurd h1 n1
theorem Quiet.live0 (hn : ∀ (q : Nat) (e : En), S.en[q]? = some e → e.ow ≠ (k : Int) ∧ hasM e.sh k = false) : live (atP S.ps k).s.1 = [] := by
  have aj := (h.pt k hk).aj
  unfold live
  rw [List.filter_eq_nil_iff]
  intro x hx
  by_cases h0 : x.st = 0
  · simp [h0]
  · exfalso
    obtain ⟨i, hi⟩ := List.getElem?_of_mem hx
    have h3 := (aj.once.find hi h0).2.1
    have h4 := hq.none h hk hn x.li
    unfold vw at h4
    rw [h3] at h4
    exact h0 h4
theorem Quiet.room (hn : ∀ (q : Nat) (e : En), S.en[q]? = some e → e.ow ≠ (k : Int) ∧ hasM e.sh k = false) (i : Nat) : Room9 c k i S := by
  right
  cases hr : roomFree c.se c.wa (atP S.ps k).s.1 i
  · obtain ⟨v1, _⟩ := (h.pt k hk).aj.victim (hq.idle h hk) (li := (i : Int)) (by omega) hr
    have h1 : (findVal (atP S.ps k).s.1 (roomVic c.se c.wa (atP S.ps k).s.1 i)).st = 0 := hq.none h hk hn _
    rw [h1] at v1
    cases v1
  · rfl
end
theorem enE_none (k : Nat) : enE.ow ≠ (k : Int) ∧ hasM enE.sh (k : Int) = false := ⟨by show (-1 : Int) ≠ (k : Int); omega, has_zero _⟩
section
variable {c : Cg} {n : Nat} {S : Mst} {cur : Nat → List Int} (h : Inv c n S cur) {i : Nat} (hi : i < c.li) {e : En} (he : S.en[i]? = some e)
include hi he
theorem dropM_kept (hk : keptE e = true) : dropM c S i = (S, didE 16) := by
  unfold dropM
  rw [if_pos (inB_iff.2 ⟨by omega, by omega⟩), Int.toNat_natCast, he]
  dsimp only
  rw [if_pos hk]
include h
theorem dropM_go (hk : keptE e = false) (hes : S.es = []) : (dropM c S i).2.e = 0 ∧ (dropM c S i).1.ps = S.ps ∧ (dropM c S i).1.en = S.en.set i enE ∧ (e.di = true → ∃ x, (dropM c S i).1.es = [x]) := by
  have hq := h.ok.qu1
  have hv : saveV c S.es i e = 0 := by
    unfold saveV wpushVal
    rw [hes]
    split
    · rw [if_pos (by omega), if_neg (by simp; omega)]
    · rfl
  have hS : dropM c S i = (⟨S.ps, S.en.set i enE, saveEs c S.es i e, S.xs⟩, did0) := by
    unfold dropM
    rw [if_pos (inB_iff.2 ⟨by omega, by omega⟩), Int.toNat_natCast, he]
    dsimp only
    rw [if_neg (by simp [hk]), if_pos hv]
  rw [hS]
  refine ⟨rfl, rfl, rfl, fun hd => ?_⟩
  show ∃ x, saveEs c S.es i e = [x]
  unfold saveEs pushEs
  rw [if_pos hd, if_pos (by omega), hes, if_neg (by simp; omega)]
  exact ⟨_, rfl⟩
end
/-- Of all entries but one nothing is known. -/
def But9 (c : Cg) (i : Nat) (S : Mst) : Prop := ∀ q, q < c.li → q ≠ i → S.en[q]? = some enE
theorem But9.all {c : Cg} {i n : Nat} {S : Mst} {cur : Nat → List Int} (b : But9 c i S) (h : Inv c n S cur) {k : Nat} (hi : ∀ e : En, S.en[i]? = some e → e.ow ≠ (k : Int) ∧ hasM e.sh k = false) : ∀ (q : Nat) (e : En), S.en[q]? = some e → e.ow ≠ (k : Int) ∧ hasM e.sh k = false := by
  intro q e he
  by_cases hqi : q = i
  · subst hqi; exact hi e he
  · have hl := (List.getElem?_eq_some_iff.1 he).1
    rw [h.li] at hl
    rw [b q hl hqi] at he
    injection he with he
    subst he
    exact enE_none k

theorem Quiet.cur8 {c : Cg} {n : Nat} {S : Mst} {cur : Nat → List Int} (h : Inv c n S cur) (hq : Quiet c S) {i : Nat} (hi : i < c.li) : (cur i).length = 8 := by
  obtain ⟨e, he, hl⟩ := h.entry hi
  cases hh : e.he
  · rw [← hl.mem0 hh]; exact h.ln8 hi
  · by_cases ho : e.ow = -1
    · rw [← hl.data hh ho]; exact e.h
    · rcases ((good_here hh).1 hl.good).1 with h1 | ⟨h1, _⟩
      · exact absurd h1 ho
      · obtain ⟨j, _, hj⟩ := isC_nat h1
        have hjc : j < c.co := by have := hl.lo.1; omega
        rcases hq.line h he hjc with ⟨h2, _⟩ | ⟨h2, _⟩ | ⟨_, _, _, h2⟩
        · exact absurd hj h2
        · exact absurd hj h2
        · rw [← h2]; exact (findVal (atP S.ps j).s.1 i).h

/-! ### MesiDrops, state by state -/
section
variable {c : Cg} {n : Nat} {S : Mst} {cur : Nat → List Int} (h : Inv c n S cur) (hq : Quiet c S) {k i : Nat} (hk : k < c.co) (hi : i < c.li)
include h hq hk hi
theorem Drops9.kept (h3 : vst (atP S.ps k) i = 3) : ∃ e, S.en[i]? = some e ∧ keptE e = true := by
  obtain ⟨e, he, _⟩ := h.entry hi
  refine ⟨e, he, ?_⟩
  rcases hq.line h he hk with ⟨_, _, h4⟩ | ⟨_, _, h4, _⟩ | ⟨h4, _⟩
  · omega
  · omega
  · unfold keptE
    have : decide (0 ≤ e.ow) = true := decide_eq_true (by omega)
    rw [this]
    simp
omit hk in
theorem Drops9.go {e : En} (he : S.en[i]? = some e) (hh : e.he = true) (ho : e.ow = -1) (hs : e.sh = 0#8) (hb : e.bu = 0) (hd : e.di = true) (hes : S.es = []) (hbt : But9 c i S) :
    (dropM c S i).2.e = 0 ∧ Quiet c (dropM c S i).1 ∧ (dropM c S i).1.en[i]? = some enE ∧ But9 c i (dropM c S i).1 ∧ (∃ x, (dropM c S i).1.es = [x]) ∧ Go.Proofs.YtadeoflkppiflaaGreatDoor.ln (dropM c S i).1.X i = cur i := by
  have hkp : keptE e = false := by unfold keptE; rw [hh, ho, hs, hb]; rfl
  obtain ⟨d1, d2, d3, d4⟩ := dropM_go h hi he hkp hes
  have hil : i < S.en.length := by rw [h.li]; exact hi
  have hat : (dropM c S i).1.en[i]? = some enE := by rw [d3, List.getElem?_set]; simp [hil]
  refine ⟨d1, ⟨fun j hj => by rw [d2]; exact hq.q j hj, fun x hx => ?_⟩, hat, fun q hq' hqi => ?_, d4 hd, ?_⟩
  · rw [d3] at hx
    rcases List.mem_or_eq_of_mem_set hx with h1 | rfl
    · exact hq.bu x h1
    · rfl
  · rw [d3, List.getElem?_set_ne (fun e => hqi e.symm)]
    exact hbt q hq' hqi
  · exact ((h.dropM i).ln i enE hat).mem0 rfl
end
/-- What is asked of a load, round by round. -/
structure Ld9 (c : Cg) (k i : Nat) (S : Mst) (t : Nat) (S1 : Mst) : Prop where
  one : t ≤ 1
  zero : t = 0 → S1 = S
  rdy : t = 1 → vst (atP S1.ps k) i ≠ 0
  di : ∃ e, S1.en[i]? = some e ∧ e.di = false
section
variable {c : Cg} {n : Nat} {S S1 S2 : Mst} {cur : Nat → List Int}
theorem Ld9.start {k i : Nat} (hd : S.en[i]? = some enE) : Ld9 c k i S 0 S := ⟨by omega, fun _ => rfl, fun h => by omega, _, hd, rfl⟩
theorem Ld9.way {k i t : Nat} (g : Ld9 c k i S t S1) (hd : S.en[i]? = some enE) (hr : Room9 c k i S) (h : Inv c n S1 cur) (hq : Quiet c S1) (hk : k < c.co) (hi : i < c.li) (h0 : vst (atP S1.ps k) i = 0) (ha : Asked9 c k i 1 S1 S2) :
    ∃ C L, Fam c cur C L ∧ C 0 0 S2 ∧ ∀ S' n', Inv c n' S' cur → C 6 0 S' → Quiet c S' ∧ Ld9 c k i S (t + 1) S' := by
  have ht : t = 0 := by
    have := g.one
    by_cases h1 : t = 1
    · exact absurd h0 (g.rdy h1)
    · omega
  obtain ⟨C, L, f1, f2, f3⟩ := ha.way h hq hk hi (.inl rfl)
  refine ⟨C, L, f1, f2, fun S' n' h' w => ?_⟩
  obtain ⟨q1, _, _, q4⟩ := f3 S' n' h' w
  have e := g.zero ht
  obtain ⟨r1, _, e0, e1, r2, r3, r4⟩ := q4 (by rw [e]; exact hr)
  refine ⟨q1, by omega, fun h => by omega, fun _ => r1.1 rfl, e1, r3, ?_⟩
  rw [e, hd] at r2
  injection r2 with r2
  subst r2
  exact r4 rfl rfl
end
end Go.Proofs.YtadeoflkppiflaaGreatDoor
end
section
namespace Go.Proofs.YtadeoflkppiflaaGreatDoor
open Go.RowKit
set_option linter.unusedVariables false
set_option maxHeartbeats 1000000
set_option maxRecDepth 100000
attribute [local go_sem ↓] append_appS copy_copS clear_clrS make_mkS cell_row frozen_row loadLine storeLine loadSlot storeSlot heap_drew heap_drewN heap_alloc heap_past heap_setCell heap_putRow vs_get slc_st slc_li slc_us slice_slS loadMsg storeMsg loadHas storeHas msc_kd msc_li msc_di msc_ke
attribute [local go_sem] rowCell_some rowFrozen_some rowHas_some rowIn_some rowPart_full rowPart_lit rowPut_full rowPut_lit rowSet_some size_putRow vs_size vs_one wideLine wideSlot run_loadS run_storeS run_appS run_copS run_clrS run_mkS loadW_at storeW_at fit_all fit_le one_int one_bool one_pointer one_slice allOne_list putRow_new ne_size1 ne_size2 ne_size3 ne_size4 zero8_length lines_nil line_eq lit8 slc_size slc_one slc_part slc_in fold_slt fold_slc slc_set_us wideMsg wideHas run_slS msc_size msc_one msc_part msc_in fold_msc msc_putDi msc_putKe msc_putX msc_has ms4_lit
attribute [local simp ↓] heap_drew heap_drewN heap_alloc heap_past heap_setCell heap_putRow
attribute [local simp] rowCell_some rowFrozen_some rowHas_some rowIn_some rowPart_full rowPart_lit rowPut_full rowPut_lit rowSet_some size_putRow vs_size fit_all putRow_new ne_size1 ne_size2 ne_size3 ne_size4 zero8_length slc_size msc_size msc_putDi msc_putKe msc_putX msc_has fit_le
attribute [local go_sem ↓] ec_he ec_di ec_ow ec_sh ec_bu ec_by ec_wa sc_to
attribute [local go_sem] mi_and mi_or mi_not mi_beq0 mi_bne0 ec_size ec_one ec_part ec_in ec_has ec_setDi ec_setOw ec_setSh ec_setBu ec_setBy ec_setWa ec_setSh0 ec_setWa0 ec_putM sc_size sc_one sc_part sc_in
attribute [local simp] ec_size sc_size ec_setDi ec_setOw ec_setSh ec_setBu ec_setBy ec_setWa ec_setSh0 ec_setWa0 ec_putM
attribute [local go_sem ↓] loadEn storeEn loadSd storeSd en_z0
attribute [local go_sem] wideEn wideSd fold_sc size11 putRow_newB putRow_newC ms5_lit
attribute [local simp] en_z0 putRow_newB putRow_newC fit_le ec_has



attribute [local go_sem ↓] mlitZ zenc_po zenc_en zenc_q
attribute [local simp] mlitZ

attribute [local go_sem ↓] mst_z0 storeMst loadMst mstc_0 mstc_1 mstc_2 mstc_3 mstc_4 loadCg cg_li cg_vo cg_qu cg_co0
attribute [local simp] mst_z0 mstc_sizeN cg_sizeN
attribute [local go_sem] fold_mst wideMst mstc_sizeN mstc_one mstc_part wideCg cg_sizeN cg_one cg_part

set_option maxHeartbeats 4000000 in
theorem write_any {W w : World} {c : Cg} {sy n : Nat} {F : List Nat} {S : Mst} {cur : Nat → List Int} (x : MStp) (k i d : Nat) (hx : x.co = (k : Int) ∧ x.li = (i : Int) ∧ x.wd = (d : Int)) (hk : k < c.co) (hi : i < c.li) (hd : d < 8) (hm : MS W w c sy F S) (hI : Inv c n S cur) (hq : Quiet c S) (hn : n + 1000 ≤ 1000000000) (h12 : c.li ≤ 12) (hT : Tabs W) :
    Calls Tryz.prog 27 #[.pointer (some ⟨sy, 0, none⟩), .agg c.cells, .agg (mstc x)] w fun e w' => e = .returned (.bool true) ∧ ∃ S', MTS W w c sy F S' w' ∧ Inv c (n + 1000) S' (upd9 cur i d x.v) ∧ Quiet c S' ∧ (S.es = [] → S'.es = []) ∧ vst (atP S'.ps k) i = 3 ∧ (Room9 c k i S → ∀ q, q ≠ i → S'.en[q]? = S.en[q]?) := by
  have HT := Lib.hid hT
  have HN := Lib.hid hn
  have H12 := Lib.hid h12
  have HX := Lib.hid hx
  have HK := Lib.hid hk
  have HLI := Lib.hid hi
  have HD := Lib.hid hd
  have HWD := Lib.hid (show isWd (d : Int) = true by unfold isWd; simp; omega)
  have HW := Lib.hid (Mem.chg hm).size
  have HO := Lib.hid (Mem.old hm)
  have r1 : ((w.alloc (.cells c.cells 23)).alloc (.cells (mstc x) 42)).heap[w.heap.size]? = some (.cells c.cells 23 (0, 0)) := by simp
  have r2 : ((w.alloc (.cells c.cells 23)).alloc (.cells (mstc x) 42)).heap[w.heap.size + 1]? = some (.cells (mstc x) 42 (0, 0)) := by simp
  have C1 := Lib.hid (((Chg.refl [] w).alloc (.cells c.cells 23)).alloc (.cells (mstc x) 42))
  have M1 := Lib.hid (show MS W ((w.alloc (.cells c.cells 23)).alloc (.cells (mstc x) 42)) c sy F S from Mem.keep hm C1.out)
  have NB1 := Lib.hid (show w.heap.size ∉ F from fun h => Nat.lt_irrefl _ (HO.out _ h))
  have NB2 := Lib.hid (show w.heap.size + 1 ∉ F from fun h => by have := HO.out _ h; omega)
  have I0 := Lib.hid hI
  have Q0 := Lib.hid hq
  clear hm hI hn h12 hT hx hk hi hd hq
  go_enter Tryz.func27, Tryz.ntmps27
  try dsimp only [List.append]
  go_wp2_with fail
  generalize w.heap.size + 1 = b2 at r2 NB2 ⊢
  generalize w.heap.size = b1 at r1 NB1 ⊢
  generalize (w.alloc (.cells c.cells 23)).alloc (.cells (mstc x) 42) = w1 at r1 r2 C1 M1 ⊢
  have o1 := old r1
  have o2 := old r2
  go_wp2_with fail
  go_loopw [7] (fun i' wr => ∃ (t : Nat) (F1 : List Nat) (S1 : Mst), i' = .int .i64 t ∧ MS W wr c sy F1 S1 ∧ (Chg F w1 wr ∧ ∀ k ∈ F1, k ∈ F ∨ w1.heap.size ≤ k) ∧ Inv c (n + t * 300) S1 cur ∧ Quiet c S1 ∧ (S.es = [] → S1.es = []) ∧ Stg9 c k i 2 S t S1) (fun i' _ => 12 - (intOf i').toNat)
  case atStart => exact ⟨0, F, S, rfl, M1.out, ⟨Chg.refl _ _, fun k hk => .inl hk⟩, by simpa using I0.out, Q0.out, fun z => z, Stg9.start c k i 2 S⟩
  case round =>
    obtain ⟨t, F1, S1, rfl, hm, hc, hI, hq, hes, hg⟩ := hrel
    have HM := Lib.hid hm
    have HC := Lib.hid hc
    have HI := Lib.hid hI
    have HQ := Lib.hid hq
    have HES := Lib.hid hes
    have HG := Lib.hid hg
    have ht := hg.two
    have r3 := hc.1.keep r1 NB1.out
    have r4 := hc.1.keep r2 NB2.out
    have o3 := old r3
    have o4 := old r4
    have HTT := Lib.hid ht
    have gt0 : (0 : Int) ≤ (t : Int) := by omega
    have gt1 : (t : Int) < 12 := by omega
    have tt : decide (t < 12) = true := decide_eq_true (by omega)
    clear hm hc hI hq hes hg M1 I0 Q0 o1 o2 ht
    have NN := Lib.hid (show n + t * 300 + 301 ≤ 1000000000 by have := HN.out; have := HTT.out; omega)
    have hop := sstore9 HM.out HI.out (by have := NN.out; omega) HQ.out.short HT.out x.co x.li x.wd x.v
    have hI1 := HI.out.storeM x.co x.li x.wd x.v
    rw [HX.out.1, HX.out.2.1, HX.out.2.2] at hI1
    have hst := HQ.out.store HI.out HK.out HLI.out (wd := (d : Int)) (v := x.v) HWD.out
    have he : storeM c S1 x.co x.li x.wd x.v = storeM c S1 k i d x.v := by rw [HX.out.1, HX.out.2.1, HX.out.2.2]
    rw [he] at hop
    clear he
    obtain ⟨y, hy⟩ : ∃ y, storeM c S1 k i d x.v = y := ⟨_, rfl⟩
    rw [hy] at hop hI1 hst
    obtain ⟨S2, dv, dh, dm, de⟩ := y
    clear hy
    dsimp only at hop hI1 hst
    have HOP := Lib.hid hop
    have HI1 := Lib.hid hI1.1
    clear hop hI1
    rcases hst with ⟨_, rfl, s2, s3, s4, s5⟩ | ⟨s1, rfl, s2⟩
    · have HS2 := Lib.hid (show Quiet c S2 ∧ S2.es = S1.es ∧ vst (atP S2.ps k) i = 3 ∧ ∀ q : Nat, S2.en[q]? = S1.en[q]? from ⟨s2, s4, s5, fun q => by rw [s3]⟩)
      clear s2 s3 s4 s5
      go_wp2_with fail
      refine HOP.out.mono ?_
      rintro e w3 ⟨rfl, m3⟩
      obtain ⟨F3, hm3, hc3, hk3⟩ := MTS.go HM.out HC.out.1 HC.out.2 m3
      have HM3 := Lib.hid (show MS W w3 c sy F3 S2 from hm3)
      have HC3 := Lib.hid (show Chg F w1 w3 ∧ ∀ k ∈ F3, k ∈ F ∨ w1.heap.size ≤ k from ⟨hc3, hk3⟩)
      clear m3 hm3 hc3 hk3
      go_wp2_with fail
      go_ret
      exact ⟨rfl, S2, MTS.wrap HW.out HO.out C1.out ⟨F3, HM3.out, HC3.out.1, HC3.out.2⟩ [] (fun b hb => (by cases hb)) (Chg.refl _ _), by have h1 := HI1.out; rw [if_pos (by trivial)] at h1; exact h1.mono (by have := HTT.out; omega), HS2.out.1, fun z => HS2.out.2.1.trans (HES.out z), HS2.out.2.2.1, fun hr q hq => (HS2.out.2.2.2 q).trans (HG.out.oth hr q hq)⟩
    · have HI2 := Lib.hid (show Inv c (n + t * 300 + 1) S2 cur by have h1 := HI1.out; rw [if_neg (by simp)] at h1; exact h1)
      have HNR := Lib.hid (show ¬ Ready9 k i 2 S1 from fun h => s1 (h.2 rfl))
      obtain ⟨CC9, LL9, f1, f2, f3⟩ := s2.way HI.out HQ.out HK.out HLI.out (.inr rfl)
      have HF1 := Lib.hid f1
      have HF2 := Lib.hid f2
      have HF3 := Lib.hid f3
      clear s1 s2 f1 f2 f3 HI1
      go_wp2_with fail
      refine HOP.out.mono ?_
      rintro e w3 ⟨rfl, m3⟩
      obtain ⟨F3, hm3, hc3, hk3⟩ := MTS.go HM.out HC.out.1 HC.out.2 m3
      have HM3 := Lib.hid (show MS W w3 c sy F3 S2 from hm3)
      have HC3 := Lib.hid (show Chg F w1 w3 ∧ ∀ k ∈ F3, k ∈ F ∨ w1.heap.size ≤ k from ⟨hc3, hk3⟩)
      have r5 := hc3.keep r1 NB1.out
      have o5 := old r5
      clear m3 hm3 hc3 hk3 r3 r4 o3 o4 HOP
      go_wp2_with fail
      refine (settle_any HM3.out HI2.out (by have := NN.out; omega) H12.out HT.out HF1.out HF2.out).mono ?_
      rintro e w4 ⟨rfl, S4, m4, i4, p4⟩
      obtain ⟨F4, hm4, hc4, hk4⟩ := MTS.go HM3.out HC3.out.1 HC3.out.2 m4
      have HM4 := Lib.hid (show MS W w4 c sy F4 S4 from hm4)
      have HC4 := Lib.hid (show Chg F w1 w4 ∧ ∀ k ∈ F4, k ∈ F ∨ w1.heap.size ≤ k from ⟨hc4, hk4⟩)
      have HI4 := Lib.hid i4
      have HE4 := Lib.hid (HF3.out S4 _ i4 p4)
      clear m4 hm4 hc4 hk4 i4 p4
      go_wp2_with fail
      go_roundw
      case rel => exact ⟨t + 1, F4, S4, by go_num, HM4.out, HC4.out, HI4.out.mono (by omega), HE4.out.1, fun z => HE4.out.2.1 (HES.out z), HG.out.next HNR.out HE4.out.2.2.1 (fun hr => ⟨(HE4.out.2.2.2 hr).1, (HE4.out.2.2.2 hr).2.1⟩)⟩
      case measure => have := HTT.out; simp [intOf]; omega
end Go.Proofs.YtadeoflkppiflaaGreatDoor
end
section
namespace Go.Proofs.YtadeoflkppiflaaGreatDoor
open Go.RowKit
set_option linter.unusedVariables false
set_option maxHeartbeats 1000000

/-! ### Hits -/
section
variable {c : Cg} {n : Nat} {S : Mst} {cur : Nat → List Int} (h : Inv c n S cur)
include h
end
/-! ### One word of one line -/
theorem ln_cell {n : Nat} {xs : List Int} (hx : xs.length = n * 8) {i d : Nat} (hi : i < n) (hd : d < 8) : xs[i * 8 + d]? = some ((ln xs i).getD d 0) := by
  unfold ln
  rw [List.getD_eq_getElem?_getD, List.getElem?_take_of_lt hd, List.getElem?_drop, List.getElem?_eq_getElem (by omega)]
  rfl
theorem bk_cell {xs : List Int} {k : Nat} {v : Int} (h : xs[k]? = some v) (r : List Value) : (bk xs r)[k]? = some (.int .u64 v) := by
  obtain ⟨hk, rfl⟩ := List.getElem?_eq_some_iff.1 h
  unfold bk
  rw [List.getElem?_toArray, List.getElem?_append_left (by simpa using hk), List.getElem?_map, h]; rfl
end Go.Proofs.YtadeoflkppiflaaGreatDoor
end
