/- What a statement of layer 13 needs further, and for the last file the statement itself: for every argument. No condition. -/
import Derived.Test.YtcjoinhngdfdmaaGreatDoorCF2a
import Derived.Below
import Derived.BigQuiet
import Derived.ChangeAlike
import Derived.ChangeArms
import Derived.ChangeKeysEq
import Derived.Deep.Cut
import Derived.Deep.CutBlock
import Derived.Deep.CutRange
import Derived.Deep.DeepCutAuto
import Derived.Deep.MidRow
import Derived.Deep.Quiet
import Derived.Deep.QuietTactic
import Derived.Deep.RegionHeld3
import Derived.Deep.RegionLaw
import Derived.Deep.RegionWith
import Derived.DeepKeys
import Derived.Defers
import Derived.IntWalk
import Derived.Laws.Bits64b
import Derived.Laws.BitsAllLaws
import Derived.Laws.Entries
import Derived.Laws.LoneSync
import Derived.Laws.NewBlocks
import Derived.Laws.Pointers
import Derived.Laws.StructEq
import Derived.Lib.Hide
import Derived.Lib.SliceRun
import Derived.Maps.OwnOps
import Derived.OpenShut
import Derived.ProofKit
import Derived.RegionCalls
import Derived.RegionTactic
import Derived.StillTail
import Derived.StillTailTactics
import Derived.Tactics
import Derived.Tactics2
import Derived.Test.YtcjoinhngdfdmaaGreatDoorChecked
import Derived.WalkKit
import Derived.WideShapes
section
namespace Go.Proofs.YtcjoinhngdfdmaaGreatDoor
open Go.RowKit
set_option linter.unusedVariables false
set_option maxHeartbeats 1000000

set_option maxRecDepth 100000
attribute [local go_sem ↓] append_appS copy_copS clear_clrS make_mkS cell_row frozen_row heap_drew heap_drewN heap_alloc heap_past heap_setCell heap_putRow loadSe storeSe loadIns storeIns loadEv storeEv loadRg storeRg sec_kd sec_li sec_wo sec_va sec_sn insc_op insc_a insc_b insc_c insc_im evc_kd evc_co evc_li evc_wo evc_va coc_id coc_ru coc_reg coc_pr coc_pc coc_qb coc_wt
attribute [local go_sem] rowCell_some rowFrozen_some rowHas_some rowIn_some rowPart_full rowPut_full rowSet_some run_loadS run_storeS run_appS run_copS run_clrS run_mkS loadW_at storeW_at fit_all fit_le one_int one_bool one_pointer one_slice allOne_list putRow_new ne_size1 ne_size2 wideSe wideIns wideEv wideRg sec_size sec_one sec_lit sec_z sec_ne sec_set0 sec_set1 sec_set2 sec_set3 seZ_kd seZ_li seZ_wo seZ_va seZ_sn insc_size insc_one insc_ne insc_lit insc_z evc_size evc_one evc_ne evc_lit evc_z evc_set0 evc_set1 evc_set2 evc_set3 evc_set4 evZ_kd evZ_co evZ_li evZ_wo evZ_va fold_evc coc_setRu coc_size coc_setPc coc_setWt coc_setReg coc_regs vs_size vs_one
attribute [local simp ↓] heap_drew heap_drewN heap_alloc heap_past heap_setCell heap_putRow
attribute [local simp] rowCell_some rowFrozen_some rowHas_some rowIn_some rowPart_full rowPut_full rowSet_some fit_all putRow_new ne_size1 ne_size2 sec_size insc_size evc_size coc_size coc_setRu coc_setPc coc_setWt coc_setReg vs_size fit_le
attribute [local go_sem ↓] heap_drewN
section
variable {W w : World} {c : Cg} {sy n : Nat} {F : List Nat} {S : Mst} {cur : Nat → List Int} {kb pb qb : Nat} {Q : Co} (h : CS W w c sy F S kb pb qb Q) (hI : Inv c n S cur) (hN : NN cur) (hn : n + 1 ≤ 1000000000) (hR : Roomy c S) (hR2 : ∀ li wo, Roomy c (loadM c S Q.id li wo).1) (hT : Tab W) {u : Int} {r : Bool} (hru : Q.ru = true) (hx : Q.pr[Q.pc]? = some (u, r))
include h hI hN hn hR hR2 hT hru hx
theorem xexec_2 (hd : decB u = true) (hk : (insOf u).op = 2) : Calls Tryz.prog 17 #[.pointer (some ⟨kb, 0, none⟩), .pointer (some ⟨sy, 0, none⟩)] w (CSTo W w c sy F kb pb qb S (nextC (setR (readC Q u) (insOf u).a (doV (insOf u).op (regA (readC Q u) (insOf u).b) (regA (readC Q u) (insOf u).c)))) []) := by
  have _ := hI
  have _ := hN
  have _ := hn
  have _ := hR
  have _ := hR2
  have _ := hT
  have hg : goodI (insOf u) = true := by unfold decB at hd; rw [Bool.and_eq_true] at hd; exact hd.1
  obtain ⟨_, ga, gb, gc, gm⟩ := goodI_parts hg
  have hpl := (List.getElem?_eq_some_iff.1 hx).1
  have hpn := h.co.ok.np
  have hp : (readC Q u).pc < 2147483648 := by show Q.pc < _; omega
  have DH := dhere h.co hx
  rw [hd, show decI u = insOf u by unfold decI; rw [hd]; rfl] at DH
  have HD := Lib.hid DH
  have RU := cruns h.co.own
  rw [hru] at RU
  have HRU := Lib.hid RU
  have HP := Lib.hid hp
  have H1 := Lib.hid (fun (w1 : World) (hc : Chg [pb] w w1) (hC : Cor w1 kb pb qb (readC Q u)) => h.core (hc.mono (by simp)) hC)
  have EN := Lib.hid (fun (w' : World) (Q' : Co) (h' : CS W w' c sy F S kb pb qb Q') (hp : Q'.pc < 2147483648) => (dnext_nil h'.co h'.old hp).mono fun e w' hd => h'.ofCo hd)
  obtain ⟨na, hna⟩ : ∃ n : Nat, (insOf u).a = (n : Int) := ⟨(insOf u).a.toNat, by omega⟩
  have la : na < 8 := by omega
  have la' : (na : Int) < 8 := by omega
  obtain ⟨nb, hnb⟩ : ∃ n : Nat, (insOf u).b = (n : Int) := ⟨(insOf u).b.toNat, by omega⟩
  have lb : nb < 8 := by omega
  have lb' : (nb : Int) < 8 := by omega
  obtain ⟨nc, hnc⟩ : ∃ n : Nat, (insOf u).c = (n : Int) := ⟨(insOf u).c.toNat, by omega⟩
  have lc : nc < 8 := by omega
  have lc' : (nc : Int) < 8 := by omega
  have eb : regA (readC Q u) (insOf u).b = regN (readC Q u).rg nb := by unfold regA; rw [hnb, Int.toNat_natCast]
  have ec : regA (readC Q u) (insOf u).c = regN (readC Q u).rg nc := by unfold regA; rw [hnc, Int.toNat_natCast]
  have p1 := h.co.ok.pos.read u |>.reg (insOf u).b
  have p2 := h.co.ok.pos.read u |>.reg (insOf u).c
  rw [eb] at p1
  rw [ec] at p2
  have HV := Lib.hid (doV_pos 2 (b := regN (readC Q u).rg nb) (c := regN (readC Q u).rg nc) p1)
  have GD := Lib.hid (fun (w' : World) => gdo_any 2 (regN (readC Q u).rg nb) (regN (readC Q u).rg nc) p2 w' |>.mono fun _ _ h => (⟨h.1, h.2 ▸ Chg.mapW _ _⟩ : _ ∧ Chg [] w' _))
  rw [eb, ec, hk, hna]
  clear eb ec p1 p2
  have h8 : (readC Q u).rg.length = 8 := h.co.ok.h8
  clear h hI hN hn hR hR2 hT hru hx hd DH RU ga gb gc gm hg hpl hpn hp
  generalize insOf u = i at *
  generalize readC Q u = Q1 at *
  go_enter Tryz.func17, Tryz.ntmps17
  try dsimp only [List.append]
  go_wp2_with (first | (go_at_call 15; refine HRU.out.mono ?_; rintro e w' ⟨rfl, rfl⟩) | (go_at_call 41; refine HD.out.mono ?_; rintro e w1 ⟨rfl, hC1, hc1⟩; have hb1 := hC1.own; have H1 := Lib.hid (H1.out w1 hc1 hC1); have C1 := Lib.hid hc1; clear hC1 hc1))
  have hx2 : (w1.alloc (.cells (insc i) 33)).heap[w1.heap.size]? = some (.cells (insc i) 33 (0, 0)) := by simp
  have C2 := Lib.hid (show Chg [] w1 (w1.alloc (.cells (insc i) 33)) from (Chg.refl [] w1).alloc _)
  have hb2 := C2.out.keep hb1 (by simp)
  have H2 := Lib.hid (H1.out.keep0 C2.out)
  have HPK := Lib.hid (show w1.heap.size ≠ kb ∧ w1.heap.size ∉ F from ⟨by have := H1.out.co.oldk.lt; omega, fun hm => by have := H1.out.old _ hm; omega⟩)
  have G2 := Lib.hid (show Chg (kb :: pb :: qb :: F) w (w1.alloc (.cells (insc i) 33)) from chg_core ((C1.out.mono (by simp)).trans (C2.out.mono (by simp))))
  clear hb1 H1 C1 C2 HD HRU
  generalize w1.alloc (.cells (insc i) 33) = w2 at *
  generalize w1.heap.size = p at *
  have o2 := old hb2
  have ox2 := old hx2
  have n1 : ¬ p = kb := HPK.out.1
  have n2 : ¬ kb = p := fun e => HPK.out.1 e.symm
  have R1 : ∀ y : Aft w2.heap.size w2, y.w.heap[p]? = some (.cells (insc i) 33 (0, 0)) := fun y => (y.block ox2.lt).trans hx2
  have R2 : ∀ y : Aft w2.heap.size w2, y.w.heap[kb]? = some (.cells (coc Q1.id Q1.ru Q1.rg pb Q1.pr.length Q1.pc qb Q1.wt) 98 (0, 0)) := fun y => (y.block o2.lt).trans hb2
  refine wp_region_aft_loose w2.heap.size 26 22 (by kernel_rfl) (by kernel_rfl) (fun ou v a ho hy => by
    obtain rfl := Option.some.inj ho
    exact extract_yields rfl ⟨⟨w2, Below.refl _ _⟩, rfl⟩ hy) (fun d v c a w h => by cases d <;> exact h) ?_
  simp only [List.take_succ_cons, List.take_zero, List.drop_succ_cons, List.drop_zero]
  repeat (go_big_quiet_step (first | (go_at_call 43; exact calls_aftC (Nat.le_refl _) (GD.out _))))
  refine wpQuiet_nil ?_
  rintro _ ⟨y, rfl⟩
  have CY := Lib.hid (Below.chg y.below (Nat.le_refl _))
  have H3 := Lib.hid (H2.out.keep0 CY.out)
  have r1 := R1 y
  have r2 := R2 y
  generalize y.w = w3 at *
  go_wp2_with fail
  refine (EN.out _ _ (H3.out.setReg la HV.out) HP.out).mono ?_
  rintro e w4 ⟨v, F', rfl, hd⟩
  go_wp2_with fail
  go_ret
  exact CSTo.from ((G2.out.trans (CY.out.mono (by simp))).trans (chg_core ((Chg.refl [kb, pb, qb] w3).setCell kb _ _ (.inl (by simp))))) (fun k hk => .inl hk) ⟨v, F', rfl, hd⟩
theorem xexec_3 (hd : decB u = true) (hk : (insOf u).op = 3) : Calls Tryz.prog 17 #[.pointer (some ⟨kb, 0, none⟩), .pointer (some ⟨sy, 0, none⟩)] w (CSTo W w c sy F kb pb qb S (nextC (setR (readC Q u) (insOf u).a (doV (insOf u).op (regA (readC Q u) (insOf u).b) (regA (readC Q u) (insOf u).c)))) []) := by
  have _ := hI
  have _ := hN
  have _ := hn
  have _ := hR
  have _ := hR2
  have _ := hT
  have hg : goodI (insOf u) = true := by unfold decB at hd; rw [Bool.and_eq_true] at hd; exact hd.1
  obtain ⟨_, ga, gb, gc, gm⟩ := goodI_parts hg
  have hpl := (List.getElem?_eq_some_iff.1 hx).1
  have hpn := h.co.ok.np
  have hp : (readC Q u).pc < 2147483648 := by show Q.pc < _; omega
  have DH := dhere h.co hx
  rw [hd, show decI u = insOf u by unfold decI; rw [hd]; rfl] at DH
  have HD := Lib.hid DH
  have RU := cruns h.co.own
  rw [hru] at RU
  have HRU := Lib.hid RU
  have HP := Lib.hid hp
  have H1 := Lib.hid (fun (w1 : World) (hc : Chg [pb] w w1) (hC : Cor w1 kb pb qb (readC Q u)) => h.core (hc.mono (by simp)) hC)
  have EN := Lib.hid (fun (w' : World) (Q' : Co) (h' : CS W w' c sy F S kb pb qb Q') (hp : Q'.pc < 2147483648) => (dnext_nil h'.co h'.old hp).mono fun e w' hd => h'.ofCo hd)
  obtain ⟨na, hna⟩ : ∃ n : Nat, (insOf u).a = (n : Int) := ⟨(insOf u).a.toNat, by omega⟩
  have la : na < 8 := by omega
  have la' : (na : Int) < 8 := by omega
  obtain ⟨nb, hnb⟩ : ∃ n : Nat, (insOf u).b = (n : Int) := ⟨(insOf u).b.toNat, by omega⟩
  have lb : nb < 8 := by omega
  have lb' : (nb : Int) < 8 := by omega
  obtain ⟨nc, hnc⟩ : ∃ n : Nat, (insOf u).c = (n : Int) := ⟨(insOf u).c.toNat, by omega⟩
  have lc : nc < 8 := by omega
  have lc' : (nc : Int) < 8 := by omega
  have eb : regA (readC Q u) (insOf u).b = regN (readC Q u).rg nb := by unfold regA; rw [hnb, Int.toNat_natCast]
  have ec : regA (readC Q u) (insOf u).c = regN (readC Q u).rg nc := by unfold regA; rw [hnc, Int.toNat_natCast]
  have p1 := h.co.ok.pos.read u |>.reg (insOf u).b
  have p2 := h.co.ok.pos.read u |>.reg (insOf u).c
  rw [eb] at p1
  rw [ec] at p2
  have HV := Lib.hid (doV_pos 3 (b := regN (readC Q u).rg nb) (c := regN (readC Q u).rg nc) p1)
  have GD := Lib.hid (fun (w' : World) => gdo_any 3 (regN (readC Q u).rg nb) (regN (readC Q u).rg nc) p2 w' |>.mono fun _ _ h => (⟨h.1, h.2 ▸ Chg.mapW _ _⟩ : _ ∧ Chg [] w' _))
  rw [eb, ec, hk, hna]
  clear eb ec p1 p2
  have h8 : (readC Q u).rg.length = 8 := h.co.ok.h8
  clear h hI hN hn hR hR2 hT hru hx hd DH RU ga gb gc gm hg hpl hpn hp
  generalize insOf u = i at *
  generalize readC Q u = Q1 at *
  go_enter Tryz.func17, Tryz.ntmps17
  try dsimp only [List.append]
  go_wp2_with (first | (go_at_call 15; refine HRU.out.mono ?_; rintro e w' ⟨rfl, rfl⟩) | (go_at_call 41; refine HD.out.mono ?_; rintro e w1 ⟨rfl, hC1, hc1⟩; have hb1 := hC1.own; have H1 := Lib.hid (H1.out w1 hc1 hC1); have C1 := Lib.hid hc1; clear hC1 hc1))
  have hx2 : (w1.alloc (.cells (insc i) 33)).heap[w1.heap.size]? = some (.cells (insc i) 33 (0, 0)) := by simp
  have C2 := Lib.hid (show Chg [] w1 (w1.alloc (.cells (insc i) 33)) from (Chg.refl [] w1).alloc _)
  have hb2 := C2.out.keep hb1 (by simp)
  have H2 := Lib.hid (H1.out.keep0 C2.out)
  have HPK := Lib.hid (show w1.heap.size ≠ kb ∧ w1.heap.size ∉ F from ⟨by have := H1.out.co.oldk.lt; omega, fun hm => by have := H1.out.old _ hm; omega⟩)
  have G2 := Lib.hid (show Chg (kb :: pb :: qb :: F) w (w1.alloc (.cells (insc i) 33)) from chg_core ((C1.out.mono (by simp)).trans (C2.out.mono (by simp))))
  clear hb1 H1 C1 C2 HD HRU
  generalize w1.alloc (.cells (insc i) 33) = w2 at *
  generalize w1.heap.size = p at *
  have o2 := old hb2
  have ox2 := old hx2
  have n1 : ¬ p = kb := HPK.out.1
  have n2 : ¬ kb = p := fun e => HPK.out.1 e.symm
  have R1 : ∀ y : Aft w2.heap.size w2, y.w.heap[p]? = some (.cells (insc i) 33 (0, 0)) := fun y => (y.block ox2.lt).trans hx2
  have R2 : ∀ y : Aft w2.heap.size w2, y.w.heap[kb]? = some (.cells (coc Q1.id Q1.ru Q1.rg pb Q1.pr.length Q1.pc qb Q1.wt) 98 (0, 0)) := fun y => (y.block o2.lt).trans hb2
  refine wp_region_aft_loose w2.heap.size 26 22 (by kernel_rfl) (by kernel_rfl) (fun ou v a ho hy => by
    obtain rfl := Option.some.inj ho
    exact extract_yields rfl ⟨⟨w2, Below.refl _ _⟩, rfl⟩ hy) (fun d v c a w h => by cases d <;> exact h) ?_
  simp only [List.take_succ_cons, List.take_zero, List.drop_succ_cons, List.drop_zero]
  repeat (go_big_quiet_step (first | (go_at_call 43; exact calls_aftC (Nat.le_refl _) (GD.out _))))
  refine wpQuiet_nil ?_
  rintro _ ⟨y, rfl⟩
  have CY := Lib.hid (Below.chg y.below (Nat.le_refl _))
  have H3 := Lib.hid (H2.out.keep0 CY.out)
  have r1 := R1 y
  have r2 := R2 y
  generalize y.w = w3 at *
  go_wp2_with fail
  refine (EN.out _ _ (H3.out.setReg la HV.out) HP.out).mono ?_
  rintro e w4 ⟨v, F', rfl, hd⟩
  go_wp2_with fail
  go_ret
  exact CSTo.from ((G2.out.trans (CY.out.mono (by simp))).trans (chg_core ((Chg.refl [kb, pb, qb] w3).setCell kb _ _ (.inl (by simp))))) (fun k hk => .inl hk) ⟨v, F', rfl, hd⟩
theorem xexec_4 (hd : decB u = true) (hk : (insOf u).op = 4) : Calls Tryz.prog 17 #[.pointer (some ⟨kb, 0, none⟩), .pointer (some ⟨sy, 0, none⟩)] w (CSTo W w c sy F kb pb qb S (nextC (setR (readC Q u) (insOf u).a (doV (insOf u).op (regA (readC Q u) (insOf u).b) (regA (readC Q u) (insOf u).c)))) []) := by
  have _ := hI
  have _ := hN
  have _ := hn
  have _ := hR
  have _ := hR2
  have _ := hT
  have hg : goodI (insOf u) = true := by unfold decB at hd; rw [Bool.and_eq_true] at hd; exact hd.1
  obtain ⟨_, ga, gb, gc, gm⟩ := goodI_parts hg
  have hpl := (List.getElem?_eq_some_iff.1 hx).1
  have hpn := h.co.ok.np
  have hp : (readC Q u).pc < 2147483648 := by show Q.pc < _; omega
  have DH := dhere h.co hx
  rw [hd, show decI u = insOf u by unfold decI; rw [hd]; rfl] at DH
  have HD := Lib.hid DH
  have RU := cruns h.co.own
  rw [hru] at RU
  have HRU := Lib.hid RU
  have HP := Lib.hid hp
  have H1 := Lib.hid (fun (w1 : World) (hc : Chg [pb] w w1) (hC : Cor w1 kb pb qb (readC Q u)) => h.core (hc.mono (by simp)) hC)
  have EN := Lib.hid (fun (w' : World) (Q' : Co) (h' : CS W w' c sy F S kb pb qb Q') (hp : Q'.pc < 2147483648) => (dnext_nil h'.co h'.old hp).mono fun e w' hd => h'.ofCo hd)
  obtain ⟨na, hna⟩ : ∃ n : Nat, (insOf u).a = (n : Int) := ⟨(insOf u).a.toNat, by omega⟩
  have la : na < 8 := by omega
  have la' : (na : Int) < 8 := by omega
  obtain ⟨nb, hnb⟩ : ∃ n : Nat, (insOf u).b = (n : Int) := ⟨(insOf u).b.toNat, by omega⟩
  have lb : nb < 8 := by omega
  have lb' : (nb : Int) < 8 := by omega
  obtain ⟨nc, hnc⟩ : ∃ n : Nat, (insOf u).c = (n : Int) := ⟨(insOf u).c.toNat, by omega⟩
  have lc : nc < 8 := by omega
  have lc' : (nc : Int) < 8 := by omega
  have eb : regA (readC Q u) (insOf u).b = regN (readC Q u).rg nb := by unfold regA; rw [hnb, Int.toNat_natCast]
  have ec : regA (readC Q u) (insOf u).c = regN (readC Q u).rg nc := by unfold regA; rw [hnc, Int.toNat_natCast]
  have p1 := h.co.ok.pos.read u |>.reg (insOf u).b
  have p2 := h.co.ok.pos.read u |>.reg (insOf u).c
  rw [eb] at p1
  rw [ec] at p2
  have HV := Lib.hid (doV_pos 4 (b := regN (readC Q u).rg nb) (c := regN (readC Q u).rg nc) p1)
  have GD := Lib.hid (fun (w' : World) => gdo_any 4 (regN (readC Q u).rg nb) (regN (readC Q u).rg nc) p2 w' |>.mono fun _ _ h => (⟨h.1, h.2 ▸ Chg.mapW _ _⟩ : _ ∧ Chg [] w' _))
  rw [eb, ec, hk, hna]
  clear eb ec p1 p2
  have h8 : (readC Q u).rg.length = 8 := h.co.ok.h8
  clear h hI hN hn hR hR2 hT hru hx hd DH RU ga gb gc gm hg hpl hpn hp
  generalize insOf u = i at *
  generalize readC Q u = Q1 at *
  go_enter Tryz.func17, Tryz.ntmps17
  try dsimp only [List.append]
  go_wp2_with (first | (go_at_call 15; refine HRU.out.mono ?_; rintro e w' ⟨rfl, rfl⟩) | (go_at_call 41; refine HD.out.mono ?_; rintro e w1 ⟨rfl, hC1, hc1⟩; have hb1 := hC1.own; have H1 := Lib.hid (H1.out w1 hc1 hC1); have C1 := Lib.hid hc1; clear hC1 hc1))
  have hx2 : (w1.alloc (.cells (insc i) 33)).heap[w1.heap.size]? = some (.cells (insc i) 33 (0, 0)) := by simp
  have C2 := Lib.hid (show Chg [] w1 (w1.alloc (.cells (insc i) 33)) from (Chg.refl [] w1).alloc _)
  have hb2 := C2.out.keep hb1 (by simp)
  have H2 := Lib.hid (H1.out.keep0 C2.out)
  have HPK := Lib.hid (show w1.heap.size ≠ kb ∧ w1.heap.size ∉ F from ⟨by have := H1.out.co.oldk.lt; omega, fun hm => by have := H1.out.old _ hm; omega⟩)
  have G2 := Lib.hid (show Chg (kb :: pb :: qb :: F) w (w1.alloc (.cells (insc i) 33)) from chg_core ((C1.out.mono (by simp)).trans (C2.out.mono (by simp))))
  clear hb1 H1 C1 C2 HD HRU
  generalize w1.alloc (.cells (insc i) 33) = w2 at *
  generalize w1.heap.size = p at *
  have o2 := old hb2
  have ox2 := old hx2
  have n1 : ¬ p = kb := HPK.out.1
  have n2 : ¬ kb = p := fun e => HPK.out.1 e.symm
  have R1 : ∀ y : Aft w2.heap.size w2, y.w.heap[p]? = some (.cells (insc i) 33 (0, 0)) := fun y => (y.block ox2.lt).trans hx2
  have R2 : ∀ y : Aft w2.heap.size w2, y.w.heap[kb]? = some (.cells (coc Q1.id Q1.ru Q1.rg pb Q1.pr.length Q1.pc qb Q1.wt) 98 (0, 0)) := fun y => (y.block o2.lt).trans hb2
  refine wp_region_aft_loose w2.heap.size 26 22 (by kernel_rfl) (by kernel_rfl) (fun ou v a ho hy => by
    obtain rfl := Option.some.inj ho
    exact extract_yields rfl ⟨⟨w2, Below.refl _ _⟩, rfl⟩ hy) (fun d v c a w h => by cases d <;> exact h) ?_
  simp only [List.take_succ_cons, List.take_zero, List.drop_succ_cons, List.drop_zero]
  repeat (go_big_quiet_step (first | (go_at_call 43; exact calls_aftC (Nat.le_refl _) (GD.out _))))
  refine wpQuiet_nil ?_
  rintro _ ⟨y, rfl⟩
  have CY := Lib.hid (Below.chg y.below (Nat.le_refl _))
  have H3 := Lib.hid (H2.out.keep0 CY.out)
  have r1 := R1 y
  have r2 := R2 y
  generalize y.w = w3 at *
  go_wp2_with fail
  refine (EN.out _ _ (H3.out.setReg la HV.out) HP.out).mono ?_
  rintro e w4 ⟨v, F', rfl, hd⟩
  go_wp2_with fail
  go_ret
  exact CSTo.from ((G2.out.trans (CY.out.mono (by simp))).trans (chg_core ((Chg.refl [kb, pb, qb] w3).setCell kb _ _ (.inl (by simp))))) (fun k hk => .inl hk) ⟨v, F', rfl, hd⟩
theorem xexec_5 (hd : decB u = true) (hk : (insOf u).op = 5) : Calls Tryz.prog 17 #[.pointer (some ⟨kb, 0, none⟩), .pointer (some ⟨sy, 0, none⟩)] w (CSTo W w c sy F kb pb qb S (nextC (setR (readC Q u) (insOf u).a (doV (insOf u).op (regA (readC Q u) (insOf u).b) (regA (readC Q u) (insOf u).c)))) []) := by
  have _ := hI
  have _ := hN
  have _ := hn
  have _ := hR
  have _ := hR2
  have _ := hT
  have hg : goodI (insOf u) = true := by unfold decB at hd; rw [Bool.and_eq_true] at hd; exact hd.1
  obtain ⟨_, ga, gb, gc, gm⟩ := goodI_parts hg
  have hpl := (List.getElem?_eq_some_iff.1 hx).1
  have hpn := h.co.ok.np
  have hp : (readC Q u).pc < 2147483648 := by show Q.pc < _; omega
  have DH := dhere h.co hx
  rw [hd, show decI u = insOf u by unfold decI; rw [hd]; rfl] at DH
  have HD := Lib.hid DH
  have RU := cruns h.co.own
  rw [hru] at RU
  have HRU := Lib.hid RU
  have HP := Lib.hid hp
  have H1 := Lib.hid (fun (w1 : World) (hc : Chg [pb] w w1) (hC : Cor w1 kb pb qb (readC Q u)) => h.core (hc.mono (by simp)) hC)
  have EN := Lib.hid (fun (w' : World) (Q' : Co) (h' : CS W w' c sy F S kb pb qb Q') (hp : Q'.pc < 2147483648) => (dnext_nil h'.co h'.old hp).mono fun e w' hd => h'.ofCo hd)
  obtain ⟨na, hna⟩ : ∃ n : Nat, (insOf u).a = (n : Int) := ⟨(insOf u).a.toNat, by omega⟩
  have la : na < 8 := by omega
  have la' : (na : Int) < 8 := by omega
  obtain ⟨nb, hnb⟩ : ∃ n : Nat, (insOf u).b = (n : Int) := ⟨(insOf u).b.toNat, by omega⟩
  have lb : nb < 8 := by omega
  have lb' : (nb : Int) < 8 := by omega
  obtain ⟨nc, hnc⟩ : ∃ n : Nat, (insOf u).c = (n : Int) := ⟨(insOf u).c.toNat, by omega⟩
  have lc : nc < 8 := by omega
  have lc' : (nc : Int) < 8 := by omega
  have eb : regA (readC Q u) (insOf u).b = regN (readC Q u).rg nb := by unfold regA; rw [hnb, Int.toNat_natCast]
  have ec : regA (readC Q u) (insOf u).c = regN (readC Q u).rg nc := by unfold regA; rw [hnc, Int.toNat_natCast]
  have p1 := h.co.ok.pos.read u |>.reg (insOf u).b
  have p2 := h.co.ok.pos.read u |>.reg (insOf u).c
  rw [eb] at p1
  rw [ec] at p2
  have HV := Lib.hid (doV_pos 5 (b := regN (readC Q u).rg nb) (c := regN (readC Q u).rg nc) p1)
  have GD := Lib.hid (fun (w' : World) => gdo_any 5 (regN (readC Q u).rg nb) (regN (readC Q u).rg nc) p2 w' |>.mono fun _ _ h => (⟨h.1, h.2 ▸ Chg.mapW _ _⟩ : _ ∧ Chg [] w' _))
  rw [eb, ec, hk, hna]
  clear eb ec p1 p2
  have h8 : (readC Q u).rg.length = 8 := h.co.ok.h8
  clear h hI hN hn hR hR2 hT hru hx hd DH RU ga gb gc gm hg hpl hpn hp
  generalize insOf u = i at *
  generalize readC Q u = Q1 at *
  go_enter Tryz.func17, Tryz.ntmps17
  try dsimp only [List.append]
  go_wp2_with (first | (go_at_call 15; refine HRU.out.mono ?_; rintro e w' ⟨rfl, rfl⟩) | (go_at_call 41; refine HD.out.mono ?_; rintro e w1 ⟨rfl, hC1, hc1⟩; have hb1 := hC1.own; have H1 := Lib.hid (H1.out w1 hc1 hC1); have C1 := Lib.hid hc1; clear hC1 hc1))
  have hx2 : (w1.alloc (.cells (insc i) 33)).heap[w1.heap.size]? = some (.cells (insc i) 33 (0, 0)) := by simp
  have C2 := Lib.hid (show Chg [] w1 (w1.alloc (.cells (insc i) 33)) from (Chg.refl [] w1).alloc _)
  have hb2 := C2.out.keep hb1 (by simp)
  have H2 := Lib.hid (H1.out.keep0 C2.out)
  have HPK := Lib.hid (show w1.heap.size ≠ kb ∧ w1.heap.size ∉ F from ⟨by have := H1.out.co.oldk.lt; omega, fun hm => by have := H1.out.old _ hm; omega⟩)
  have G2 := Lib.hid (show Chg (kb :: pb :: qb :: F) w (w1.alloc (.cells (insc i) 33)) from chg_core ((C1.out.mono (by simp)).trans (C2.out.mono (by simp))))
  clear hb1 H1 C1 C2 HD HRU
  generalize w1.alloc (.cells (insc i) 33) = w2 at *
  generalize w1.heap.size = p at *
  have o2 := old hb2
  have ox2 := old hx2
  have n1 : ¬ p = kb := HPK.out.1
  have n2 : ¬ kb = p := fun e => HPK.out.1 e.symm
  have R1 : ∀ y : Aft w2.heap.size w2, y.w.heap[p]? = some (.cells (insc i) 33 (0, 0)) := fun y => (y.block ox2.lt).trans hx2
  have R2 : ∀ y : Aft w2.heap.size w2, y.w.heap[kb]? = some (.cells (coc Q1.id Q1.ru Q1.rg pb Q1.pr.length Q1.pc qb Q1.wt) 98 (0, 0)) := fun y => (y.block o2.lt).trans hb2
  refine wp_region_aft_loose w2.heap.size 26 22 (by kernel_rfl) (by kernel_rfl) (fun ou v a ho hy => by
    obtain rfl := Option.some.inj ho
    exact extract_yields rfl ⟨⟨w2, Below.refl _ _⟩, rfl⟩ hy) (fun d v c a w h => by cases d <;> exact h) ?_
  simp only [List.take_succ_cons, List.take_zero, List.drop_succ_cons, List.drop_zero]
  repeat (go_big_quiet_step (first | (go_at_call 43; exact calls_aftC (Nat.le_refl _) (GD.out _))))
  refine wpQuiet_nil ?_
  rintro _ ⟨y, rfl⟩
  have CY := Lib.hid (Below.chg y.below (Nat.le_refl _))
  have H3 := Lib.hid (H2.out.keep0 CY.out)
  have r1 := R1 y
  have r2 := R2 y
  generalize y.w = w3 at *
  go_wp2_with fail
  refine (EN.out _ _ (H3.out.setReg la HV.out) HP.out).mono ?_
  rintro e w4 ⟨v, F', rfl, hd⟩
  go_wp2_with fail
  go_ret
  exact CSTo.from ((G2.out.trans (CY.out.mono (by simp))).trans (chg_core ((Chg.refl [kb, pb, qb] w3).setCell kb _ _ (.inl (by simp))))) (fun k hk => .inl hk) ⟨v, F', rfl, hd⟩
theorem xexec_6 (hd : decB u = true) (hk : (insOf u).op = 6) : Calls Tryz.prog 17 #[.pointer (some ⟨kb, 0, none⟩), .pointer (some ⟨sy, 0, none⟩)] w (CSTo W w c sy F kb pb qb S (nextC (setR (readC Q u) (insOf u).a (doV (insOf u).op (regA (readC Q u) (insOf u).b) (regA (readC Q u) (insOf u).c)))) []) := by
  have _ := hI
  have _ := hN
  have _ := hn
  have _ := hR
  have _ := hR2
  have _ := hT
  have hg : goodI (insOf u) = true := by unfold decB at hd; rw [Bool.and_eq_true] at hd; exact hd.1
  obtain ⟨_, ga, gb, gc, gm⟩ := goodI_parts hg
  have hpl := (List.getElem?_eq_some_iff.1 hx).1
  have hpn := h.co.ok.np
  have hp : (readC Q u).pc < 2147483648 := by show Q.pc < _; omega
  have DH := dhere h.co hx
  rw [hd, show decI u = insOf u by unfold decI; rw [hd]; rfl] at DH
  have HD := Lib.hid DH
  have RU := cruns h.co.own
  rw [hru] at RU
  have HRU := Lib.hid RU
  have HP := Lib.hid hp
  have H1 := Lib.hid (fun (w1 : World) (hc : Chg [pb] w w1) (hC : Cor w1 kb pb qb (readC Q u)) => h.core (hc.mono (by simp)) hC)
  have EN := Lib.hid (fun (w' : World) (Q' : Co) (h' : CS W w' c sy F S kb pb qb Q') (hp : Q'.pc < 2147483648) => (dnext_nil h'.co h'.old hp).mono fun e w' hd => h'.ofCo hd)
  obtain ⟨na, hna⟩ : ∃ n : Nat, (insOf u).a = (n : Int) := ⟨(insOf u).a.toNat, by omega⟩
  have la : na < 8 := by omega
  have la' : (na : Int) < 8 := by omega
  obtain ⟨nb, hnb⟩ : ∃ n : Nat, (insOf u).b = (n : Int) := ⟨(insOf u).b.toNat, by omega⟩
  have lb : nb < 8 := by omega
  have lb' : (nb : Int) < 8 := by omega
  obtain ⟨nc, hnc⟩ : ∃ n : Nat, (insOf u).c = (n : Int) := ⟨(insOf u).c.toNat, by omega⟩
  have lc : nc < 8 := by omega
  have lc' : (nc : Int) < 8 := by omega
  have eb : regA (readC Q u) (insOf u).b = regN (readC Q u).rg nb := by unfold regA; rw [hnb, Int.toNat_natCast]
  have ec : regA (readC Q u) (insOf u).c = regN (readC Q u).rg nc := by unfold regA; rw [hnc, Int.toNat_natCast]
  have p1 := h.co.ok.pos.read u |>.reg (insOf u).b
  have p2 := h.co.ok.pos.read u |>.reg (insOf u).c
  rw [eb] at p1
  rw [ec] at p2
  have HV := Lib.hid (doV_pos 6 (b := regN (readC Q u).rg nb) (c := regN (readC Q u).rg nc) p1)
  have GD := Lib.hid (fun (w' : World) => gdo_any 6 (regN (readC Q u).rg nb) (regN (readC Q u).rg nc) p2 w' |>.mono fun _ _ h => (⟨h.1, h.2 ▸ Chg.mapW _ _⟩ : _ ∧ Chg [] w' _))
  rw [eb, ec, hk, hna]
  clear eb ec p1 p2
  have h8 : (readC Q u).rg.length = 8 := h.co.ok.h8
  clear h hI hN hn hR hR2 hT hru hx hd DH RU ga gb gc gm hg hpl hpn hp
  generalize insOf u = i at *
  generalize readC Q u = Q1 at *
  go_enter Tryz.func17, Tryz.ntmps17
  try dsimp only [List.append]
  go_wp2_with (first | (go_at_call 15; refine HRU.out.mono ?_; rintro e w' ⟨rfl, rfl⟩) | (go_at_call 41; refine HD.out.mono ?_; rintro e w1 ⟨rfl, hC1, hc1⟩; have hb1 := hC1.own; have H1 := Lib.hid (H1.out w1 hc1 hC1); have C1 := Lib.hid hc1; clear hC1 hc1))
  have hx2 : (w1.alloc (.cells (insc i) 33)).heap[w1.heap.size]? = some (.cells (insc i) 33 (0, 0)) := by simp
  have C2 := Lib.hid (show Chg [] w1 (w1.alloc (.cells (insc i) 33)) from (Chg.refl [] w1).alloc _)
  have hb2 := C2.out.keep hb1 (by simp)
  have H2 := Lib.hid (H1.out.keep0 C2.out)
  have HPK := Lib.hid (show w1.heap.size ≠ kb ∧ w1.heap.size ∉ F from ⟨by have := H1.out.co.oldk.lt; omega, fun hm => by have := H1.out.old _ hm; omega⟩)
  have G2 := Lib.hid (show Chg (kb :: pb :: qb :: F) w (w1.alloc (.cells (insc i) 33)) from chg_core ((C1.out.mono (by simp)).trans (C2.out.mono (by simp))))
  clear hb1 H1 C1 C2 HD HRU
  generalize w1.alloc (.cells (insc i) 33) = w2 at *
  generalize w1.heap.size = p at *
  have o2 := old hb2
  have ox2 := old hx2
  have n1 : ¬ p = kb := HPK.out.1
  have n2 : ¬ kb = p := fun e => HPK.out.1 e.symm
  have R1 : ∀ y : Aft w2.heap.size w2, y.w.heap[p]? = some (.cells (insc i) 33 (0, 0)) := fun y => (y.block ox2.lt).trans hx2
  have R2 : ∀ y : Aft w2.heap.size w2, y.w.heap[kb]? = some (.cells (coc Q1.id Q1.ru Q1.rg pb Q1.pr.length Q1.pc qb Q1.wt) 98 (0, 0)) := fun y => (y.block o2.lt).trans hb2
  refine wp_region_aft_loose w2.heap.size 26 22 (by kernel_rfl) (by kernel_rfl) (fun ou v a ho hy => by
    obtain rfl := Option.some.inj ho
    exact extract_yields rfl ⟨⟨w2, Below.refl _ _⟩, rfl⟩ hy) (fun d v c a w h => by cases d <;> exact h) ?_
  simp only [List.take_succ_cons, List.take_zero, List.drop_succ_cons, List.drop_zero]
  repeat (go_big_quiet_step (first | (go_at_call 43; exact calls_aftC (Nat.le_refl _) (GD.out _))))
  refine wpQuiet_nil ?_
  rintro _ ⟨y, rfl⟩
  have CY := Lib.hid (Below.chg y.below (Nat.le_refl _))
  have H3 := Lib.hid (H2.out.keep0 CY.out)
  have r1 := R1 y
  have r2 := R2 y
  generalize y.w = w3 at *
  go_wp2_with fail
  refine (EN.out _ _ (H3.out.setReg la HV.out) HP.out).mono ?_
  rintro e w4 ⟨v, F', rfl, hd⟩
  go_wp2_with fail
  go_ret
  exact CSTo.from ((G2.out.trans (CY.out.mono (by simp))).trans (chg_core ((Chg.refl [kb, pb, qb] w3).setCell kb _ _ (.inl (by simp))))) (fun k hk => .inl hk) ⟨v, F', rfl, hd⟩
theorem xexec_7 (hd : decB u = true) (hk : (insOf u).op = 7) : Calls Tryz.prog 17 #[.pointer (some ⟨kb, 0, none⟩), .pointer (some ⟨sy, 0, none⟩)] w (CSTo W w c sy F kb pb qb S (nextC (setR (readC Q u) (insOf u).a (doV (insOf u).op (regA (readC Q u) (insOf u).b) (regA (readC Q u) (insOf u).c)))) []) := by
  have _ := hI
  have _ := hN
  have _ := hn
  have _ := hR
  have _ := hR2
  have _ := hT
  have hg : goodI (insOf u) = true := by unfold decB at hd; rw [Bool.and_eq_true] at hd; exact hd.1
  obtain ⟨_, ga, gb, gc, gm⟩ := goodI_parts hg
  have hpl := (List.getElem?_eq_some_iff.1 hx).1
  have hpn := h.co.ok.np
  have hp : (readC Q u).pc < 2147483648 := by show Q.pc < _; omega
  have DH := dhere h.co hx
  rw [hd, show decI u = insOf u by unfold decI; rw [hd]; rfl] at DH
  have HD := Lib.hid DH
  have RU := cruns h.co.own
  rw [hru] at RU
  have HRU := Lib.hid RU
  have HP := Lib.hid hp
  have H1 := Lib.hid (fun (w1 : World) (hc : Chg [pb] w w1) (hC : Cor w1 kb pb qb (readC Q u)) => h.core (hc.mono (by simp)) hC)
  have EN := Lib.hid (fun (w' : World) (Q' : Co) (h' : CS W w' c sy F S kb pb qb Q') (hp : Q'.pc < 2147483648) => (dnext_nil h'.co h'.old hp).mono fun e w' hd => h'.ofCo hd)
  obtain ⟨na, hna⟩ : ∃ n : Nat, (insOf u).a = (n : Int) := ⟨(insOf u).a.toNat, by omega⟩
  have la : na < 8 := by omega
  have la' : (na : Int) < 8 := by omega
  obtain ⟨nb, hnb⟩ : ∃ n : Nat, (insOf u).b = (n : Int) := ⟨(insOf u).b.toNat, by omega⟩
  have lb : nb < 8 := by omega
  have lb' : (nb : Int) < 8 := by omega
  obtain ⟨nc, hnc⟩ : ∃ n : Nat, (insOf u).c = (n : Int) := ⟨(insOf u).c.toNat, by omega⟩
  have lc : nc < 8 := by omega
  have lc' : (nc : Int) < 8 := by omega
  have eb : regA (readC Q u) (insOf u).b = regN (readC Q u).rg nb := by unfold regA; rw [hnb, Int.toNat_natCast]
  have ec : regA (readC Q u) (insOf u).c = regN (readC Q u).rg nc := by unfold regA; rw [hnc, Int.toNat_natCast]
  have p1 := h.co.ok.pos.read u |>.reg (insOf u).b
  have p2 := h.co.ok.pos.read u |>.reg (insOf u).c
  rw [eb] at p1
  rw [ec] at p2
  have HV := Lib.hid (doV_pos 7 (b := regN (readC Q u).rg nb) (c := regN (readC Q u).rg nc) p1)
  have GD := Lib.hid (fun (w' : World) => gdo_any 7 (regN (readC Q u).rg nb) (regN (readC Q u).rg nc) p2 w' |>.mono fun _ _ h => (⟨h.1, h.2 ▸ Chg.mapW _ _⟩ : _ ∧ Chg [] w' _))
  rw [eb, ec, hk, hna]
  clear eb ec p1 p2
  have h8 : (readC Q u).rg.length = 8 := h.co.ok.h8
  clear h hI hN hn hR hR2 hT hru hx hd DH RU ga gb gc gm hg hpl hpn hp
  generalize insOf u = i at *
  generalize readC Q u = Q1 at *
  go_enter Tryz.func17, Tryz.ntmps17
  try dsimp only [List.append]
  go_wp2_with (first | (go_at_call 15; refine HRU.out.mono ?_; rintro e w' ⟨rfl, rfl⟩) | (go_at_call 41; refine HD.out.mono ?_; rintro e w1 ⟨rfl, hC1, hc1⟩; have hb1 := hC1.own; have H1 := Lib.hid (H1.out w1 hc1 hC1); have C1 := Lib.hid hc1; clear hC1 hc1))
  have hx2 : (w1.alloc (.cells (insc i) 33)).heap[w1.heap.size]? = some (.cells (insc i) 33 (0, 0)) := by simp
  have C2 := Lib.hid (show Chg [] w1 (w1.alloc (.cells (insc i) 33)) from (Chg.refl [] w1).alloc _)
  have hb2 := C2.out.keep hb1 (by simp)
  have H2 := Lib.hid (H1.out.keep0 C2.out)
  have HPK := Lib.hid (show w1.heap.size ≠ kb ∧ w1.heap.size ∉ F from ⟨by have := H1.out.co.oldk.lt; omega, fun hm => by have := H1.out.old _ hm; omega⟩)
  have G2 := Lib.hid (show Chg (kb :: pb :: qb :: F) w (w1.alloc (.cells (insc i) 33)) from chg_core ((C1.out.mono (by simp)).trans (C2.out.mono (by simp))))
  clear hb1 H1 C1 C2 HD HRU
  generalize w1.alloc (.cells (insc i) 33) = w2 at *
  generalize w1.heap.size = p at *
  have o2 := old hb2
  have ox2 := old hx2
  have n1 : ¬ p = kb := HPK.out.1
  have n2 : ¬ kb = p := fun e => HPK.out.1 e.symm
  have R1 : ∀ y : Aft w2.heap.size w2, y.w.heap[p]? = some (.cells (insc i) 33 (0, 0)) := fun y => (y.block ox2.lt).trans hx2
  have R2 : ∀ y : Aft w2.heap.size w2, y.w.heap[kb]? = some (.cells (coc Q1.id Q1.ru Q1.rg pb Q1.pr.length Q1.pc qb Q1.wt) 98 (0, 0)) := fun y => (y.block o2.lt).trans hb2
  refine wp_region_aft_loose w2.heap.size 26 22 (by kernel_rfl) (by kernel_rfl) (fun ou v a ho hy => by
    obtain rfl := Option.some.inj ho
    exact extract_yields rfl ⟨⟨w2, Below.refl _ _⟩, rfl⟩ hy) (fun d v c a w h => by cases d <;> exact h) ?_
  simp only [List.take_succ_cons, List.take_zero, List.drop_succ_cons, List.drop_zero]
  repeat (go_big_quiet_step (first | (go_at_call 43; exact calls_aftC (Nat.le_refl _) (GD.out _))))
  refine wpQuiet_nil ?_
  rintro _ ⟨y, rfl⟩
  have CY := Lib.hid (Below.chg y.below (Nat.le_refl _))
  have H3 := Lib.hid (H2.out.keep0 CY.out)
  have r1 := R1 y
  have r2 := R2 y
  generalize y.w = w3 at *
  go_wp2_with fail
  refine (EN.out _ _ (H3.out.setReg la HV.out) HP.out).mono ?_
  rintro e w4 ⟨v, F', rfl, hd⟩
  go_wp2_with fail
  go_ret
  exact CSTo.from ((G2.out.trans (CY.out.mono (by simp))).trans (chg_core ((Chg.refl [kb, pb, qb] w3).setCell kb _ _ (.inl (by simp))))) (fun k hk => .inl hk) ⟨v, F', rfl, hd⟩
end
end Go.Proofs.YtcjoinhngdfdmaaGreatDoor
end
section
namespace Go.Proofs.YtcjoinhngdfdmaaGreatDoor
open Go.RowKit
set_option linter.unusedVariables false
set_option maxHeartbeats 1000000

set_option maxRecDepth 100000
attribute [local go_sem ↓] append_appS copy_copS clear_clrS make_mkS cell_row frozen_row heap_drew heap_drewN heap_alloc heap_past heap_setCell heap_putRow loadSe storeSe loadIns storeIns loadEv storeEv loadRg storeRg sec_kd sec_li sec_wo sec_va sec_sn insc_op insc_a insc_b insc_c insc_im evc_kd evc_co evc_li evc_wo evc_va coc_id coc_ru coc_reg coc_pr coc_pc coc_qb coc_wt
attribute [local go_sem] rowCell_some rowFrozen_some rowHas_some rowIn_some rowPart_full rowPut_full rowSet_some run_loadS run_storeS run_appS run_copS run_clrS run_mkS loadW_at storeW_at fit_all fit_le one_int one_bool one_pointer one_slice allOne_list putRow_new ne_size1 ne_size2 wideSe wideIns wideEv wideRg sec_size sec_one sec_lit sec_z sec_ne sec_set0 sec_set1 sec_set2 sec_set3 seZ_kd seZ_li seZ_wo seZ_va seZ_sn insc_size insc_one insc_ne insc_lit insc_z evc_size evc_one evc_ne evc_lit evc_z evc_set0 evc_set1 evc_set2 evc_set3 evc_set4 evZ_kd evZ_co evZ_li evZ_wo evZ_va fold_evc coc_setRu coc_size coc_setPc coc_setWt coc_setReg coc_regs vs_size vs_one
attribute [local simp ↓] heap_drew heap_drewN heap_alloc heap_past heap_setCell heap_putRow
attribute [local simp] rowCell_some rowFrozen_some rowHas_some rowIn_some rowPart_full rowPut_full rowSet_some fit_all putRow_new ne_size1 ne_size2 sec_size insc_size evc_size coc_size coc_setRu coc_setPc coc_setWt coc_setReg vs_size fit_le
attribute [local go_sem ↓] heap_drewN
/-- Exec does what the document says, whatever the word is. -/
theorem yexec {W w : World} {c : Cg} {sy n : Nat} {F : List Nat} {S : Mst} {cur : Nat → List Int} {kb pb qb : Nat} {Q : Co} (h : CS W w c sy F S kb pb qb Q) (hI : Inv c n S cur) (hN : NN cur) (hn : n + 1 ≤ 1000000000) (hR : Roomy c S) (hR2 : ∀ li wo, Roomy c (loadM c S Q.id li wo).1) (hT : Tab W) :
    Calls Tryz.prog 17 #[.pointer (some ⟨kb, 0, none⟩), .pointer (some ⟨sy, 0, none⟩)] w (CSTo W w c sy F kb pb qb (execC c S Q).S (execC c S Q).Q (execC c S Q).ev) := by
  by_cases hA : noAlu Q
  · exact xexec h hI hN hn hR hR2 hT hA
  · unfold noAlu at hA
    simp only [Classical.not_forall] at hA
    obtain ⟨u, r, hx, hd, hop⟩ := hA
    have h2 : 2 ≤ (insOf u).op ∧ (insOf u).op ≤ 7 := by omega
    cases hru : Q.ru
    · unfold execC
      rw [hru]
      exact xexec_off h hru sy
    have e : execC c S Q = ⟨S, nextC (setR (readC Q u) (insOf u).a (doV (insOf u).op (regA (readC Q u) (insOf u).b) (regA (readC Q u) (insOf u).c))), []⟩ := by
      unfold execC
      rw [hru, if_pos rfl, hx]
      dsimp only
      rw [if_pos hd]
      unfold insC
      rw [if_neg (by omega), if_neg (by omega), if_pos h2.2]
    rw [e]
    rcases (show (insOf u).op = 2 ∨ (insOf u).op = 3 ∨ (insOf u).op = 4 ∨ (insOf u).op = 5 ∨ (insOf u).op = 6 ∨ (insOf u).op = 7 by omega) with hk | hk | hk | hk | hk | hk
    · exact xexec_2 h hI hN hn hR hR2 hT hru hx hd hk
    · exact xexec_3 h hI hN hn hR hR2 hT hru hx hd hk
    · exact xexec_4 h hI hN hn hR hR2 hT hru hx hd hk
    · exact xexec_5 h hI hN hn hR hR2 hT hru hx hd hk
    · exact xexec_6 h hI hN hn hR hR2 hT hru hx hd hk
    · exact xexec_7 h hI hN hn hR hR2 hT hru hx hd hk
end Go.Proofs.YtcjoinhngdfdmaaGreatDoor
end
section
namespace Go.Proofs.YtcjoinhngdfdmaaGreatDoor
open Go.RowKit
set_option linter.unusedVariables false
set_option maxHeartbeats 1000000

set_option maxRecDepth 100000
attribute [local go_sem ↓] append_appS copy_copS clear_clrS make_mkS cell_row frozen_row heap_drew heap_drewN heap_alloc heap_past heap_setCell heap_putRow loadSe storeSe loadIns storeIns loadEv storeEv loadRg storeRg sec_kd sec_li sec_wo sec_va sec_sn insc_op insc_a insc_b insc_c insc_im evc_kd evc_co evc_li evc_wo evc_va coc_id coc_ru coc_reg coc_pr coc_pc coc_qb coc_wt
attribute [local go_sem] rowCell_some rowFrozen_some rowHas_some rowIn_some rowPart_full rowPut_full rowSet_some run_loadS run_storeS run_appS run_copS run_clrS run_mkS loadW_at storeW_at fit_all fit_le one_int one_bool one_pointer one_slice allOne_list putRow_new ne_size1 ne_size2 wideSe wideIns wideEv wideRg sec_size sec_one sec_lit sec_z sec_ne sec_set0 sec_set1 sec_set2 sec_set3 seZ_kd seZ_li seZ_wo seZ_va seZ_sn insc_size insc_one insc_ne insc_lit insc_z evc_size evc_one evc_ne evc_lit evc_z evc_set0 evc_set1 evc_set2 evc_set3 evc_set4 evZ_kd evZ_co evZ_li evZ_wo evZ_va fold_evc coc_setRu coc_size coc_setPc coc_setWt coc_setReg coc_regs vs_size vs_one
attribute [local simp ↓] heap_drew heap_drewN heap_alloc heap_past heap_setCell heap_putRow
attribute [local simp] rowCell_some rowFrozen_some rowHas_some rowIn_some rowPart_full rowPut_full rowSet_some fit_all putRow_new ne_size1 ne_size2 sec_size insc_size evc_size coc_size coc_setRu coc_setPc coc_setWt coc_setReg vs_size fit_le
attribute [local go_sem ↓] heap_drewN
/-! ### The steps of CoreFences -/
structure Fs where
  kd : Int
  li : Int
  va : Int
  m : Ms
def Fs.enc (s : Fs) : List Value := [.int .i64 s.kd, .int .i64 s.li, .int .u64 s.va] ++ Ms.enc s.m
def fsc (s : Fs) : Array Value := (Fs.enc s).toArray
theorem Fs.len (s : Fs) : (Fs.enc s).length = 15 := by simp [Fs.enc, Ms.enc, s.m.h]
theorem fsc_size (s : Fs) : (fsc s).size = 15 := by simp [fsc, Fs.len]
theorem fsc_0 (s : Fs) : (fsc s)[0]? = some (.int .i64 s.kd) := by simp [fsc, Fs.enc]
theorem fsc_1 (s : Fs) : (fsc s)[1]? = some (.int .i64 s.li) := by simp [fsc, Fs.enc]
theorem Fs.one (s : Fs) : ∀ v ∈ Fs.enc s, v.oneCell' = true := by
  intro v hv
  simp only [Fs.enc, List.mem_append, List.mem_cons, List.not_mem_nil, or_false] at hv
  rcases hv with (rfl | rfl | rfl) | hv
  · rfl
  · rfl
  · rfl
  · exact Ms.one s.m v hv
theorem fsc_one (s : Fs) : allOne (fsc s) := allOne_list _ (List.all_eq_true.2 (Fs.one s))
theorem wideFs : Wide Tryz.prog 57 15 := ⟨⟨_, Tryz.underlying57, by rfl⟩, by kernel_rfl⟩
theorem loadFs (x : Value) : Instr.loadAt 57 x = loadS 57 15 x := rfl
theorem storeFs (x y : Value) : Instr.storeAt 57 x y = storeS 57 15 x y := rfl
/-- What CoreFences holds at the head of a round. -/
def FR (W w : World) (sy kb pb qb j : Nat) : Prop := ∃ (F : List Nat) (S : Mst) (Q : Co) (cur : Nat → List Int), CS W w kc sy F S kb pb qb Q ∧ Inv kc (2 * j) S cur ∧ NN cur ∧ Q.rm = 3 ∧ Q.es.length ≤ 3 ∧ Q.wt ≤ 16
end Go.Proofs.YtcjoinhngdfdmaaGreatDoor
end
