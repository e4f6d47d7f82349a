/- Texts of the walk, one behind the other: Cog Coh Qtl. No condition. -/
import Derived.Test.YtcjoinhngdfdmaaGreatDoorCNaa
import Derived.Test.YtcjoinhngdfdmaaGreatDoorCNal
import Derived.Test.YtcjoinhngdfdmaaGreatDoorCNam
import Derived.Test.YtcjoinhngdfdmaaGreatDoorCNan
import Derived.Deep.Quiet
import Derived.StillTail
import Derived.StillTailTactics
section
namespace Go.Proofs.YtcjoinhngdfdmaaGreatDoor
open Go.RowKit
set_option linter.unusedVariables false
set_option maxHeartbeats 1000000

set_option maxRecDepth 100000
attribute [local go_sem ↓] append_appS copy_copS clear_clrS make_mkS cell_row frozen_row heap_drew heap_drewN heap_alloc heap_past heap_setCell heap_putRow loadSe storeSe loadIns storeIns loadEv storeEv loadRg storeRg sec_kd sec_li sec_wo sec_va sec_sn insc_op insc_a insc_b insc_c insc_im evc_kd evc_co evc_li evc_wo evc_va coc_id coc_ru coc_reg coc_pr coc_pc coc_qb coc_wt
attribute [local go_sem] rowCell_some rowFrozen_some rowHas_some rowIn_some rowPart_full rowPart_lit rowPut_full rowPut_lit rowSet_some size_putRow run_loadS run_storeS run_appS run_copS run_clrS run_mkS loadW_at storeW_at fit_all fit_le one_int one_bool one_pointer one_slice allOne_list putRow_new ne_size1 ne_size2 ne_size3 ne_size4 wideSe wideIns wideEv wideRg sec_size sec_one sec_lit sec_z sec_ne sec_set0 sec_set1 sec_set2 sec_set3 sec_set4 seZ_kd seZ_li seZ_wo seZ_va seZ_sn fold_sec insc_size insc_one insc_ne insc_lit insc_z fold_insc evc_size evc_one evc_ne evc_lit evc_z evc_set0 evc_set1 evc_set2 evc_set3 evc_set4 evZ_kd evZ_co evZ_li evZ_wo evZ_va fold_evc coc_setRu coc_size coc_one coc_setPc coc_setWt coc_setReg coc_regs coc_regsIn vs_size vs_one
attribute [local simp ↓] heap_drew heap_drewN heap_alloc heap_past heap_setCell heap_putRow
attribute [local simp] rowCell_some rowFrozen_some rowHas_some rowIn_some rowPart_full rowPart_lit rowPut_full rowPut_lit rowSet_some size_putRow fit_all putRow_new ne_size1 ne_size2 ne_size3 ne_size4 sec_size insc_size evc_size coc_size coc_setRu coc_setPc coc_setWt coc_setReg vs_size fit_le
attribute [local go_sem ↓] heap_drewN
/-! ### Slices of events -/
def evzV : Value := .agg (evc evZ)
theorem evzV_size : evzV.cells.size = 5 := rfl
theorem evzV_one : ∀ v ∈ evzV.cells, v.oneCell' = true := by intro v hv; simp [evzV, Value.cells, evc, Ev.enc] at hv; rcases hv with rfl | rfl | rfl | rfl | rfl <;> rfl
theorem ev_info : (Tryz.prog.info? 45).map (fun i => (i.zero, i.size, i.bytes)) = some (some evzV, 5, 40) := by kernel_rfl
theorem eltEv : Elt Tryz.prog 41 45 5 40 evzV Ev.enc where
  slice := Tryz.underlying41
  info := ev_info
  zero := evzV_size
  zone := evzV_one
  pos := by omega
  len := Ev.len
  one := Ev.one
/-! ### An address -/
theorem at_no13 (n a : Int) (w : World) (h0 : 1 ≤ n) (h1 : n ≤ 64) (g0 : 0 ≤ a) (g3 : a < 18446744073709551616) (h : atB n a = false) : Calls Tryz.prog 83 #[.int .i64 n, .int .u64 a] w fun e w' => e = .returned (.tuple #[.int .i64 0, .int .i64 0, .int .i64 12]) ∧ w = w' := by
  unfold atB at h
  by_cases g1 : a % 8 = 0
  · by_cases g2 : a / 64 < n
    · simp [g1, g2] at h
    · have t1 : (a % 8 != 0) = false := by simp [g1]
      have t2 : decide (n ≤ a / 64) = true := by simp; omega
      clear g1 g2 h
      go_enter Tryz.func83, Tryz.ntmps83
      go_wp2_with (go_at_call 67; refine (wdwithin_yes _ _ _ _ h0 h1).mono ?_; rintro e w' ⟨rfl, rfl⟩)
      go_ret3
      exact ⟨rfl, rfl⟩
  · exact at_odd n a w h0 h1 g0 g1
theorem at_yes13 (n a : Int) (w : World) (h0 : 1 ≤ n) (h1 : n ≤ 64) (g0 : 0 ≤ a) (h : atB n a = true) : Calls Tryz.prog 83 #[.int .i64 n, .int .u64 a] w fun e w' => e = .returned (.tuple #[.int .i64 (lineOf a), .int .i64 (wordOf a), .int .i64 0]) ∧ w = w' := by
  unfold atB at h
  simp only [Bool.and_eq_true, beq_iff_eq, decide_eq_true_eq] at h
  exact at_ok n a w h0 h1 g0 h.1 h.2
/-- One event behind another. -/
theorem ev_append {w : World} {kb be1 be2 : Nat} {e1 e2 : Ev} (h1 : w.heap[be1]? = some (.cells (evc e1) 45 (0, 0))) (h2 : w.heap[be2]? = some (.cells (evc e2) 45 (0, 0))) (hk : be1 ≠ kb) (hk2 : be2 ≠ kb) (ok : Old w kb) :
    ∃ be A cap w', appR Tryz.prog 41 41 #[.slice (some ⟨be1, 0, none⟩) 1 1, .slice (some ⟨be2, 0, none⟩) 1 1] w = .ok (.slice A 2 cap) w' ∧ Vec 5 45 Ev.enc w' kb be A cap [e1, e2] ∧ (be = be1 ∨ w.heap.size ≤ be) ∧ Chg [be1] w w' := by
  have v1 : Vec 5 45 Ev.enc w kb be1 (some ⟨be1, 0, none⟩) 1 [e1] := .inr ⟨hk, rfl, by simp, [], by rw [sq_one_ev]; exact h1, by simp⟩
  have v2 : Vec 5 45 Ev.enc w kb be2 (some ⟨be2, 0, none⟩) 1 [e2] := .inr ⟨hk2, rfl, by simp, [], by rw [sq_one_ev]; exact h2, by simp⟩
  obtain ⟨be', cap', A', w', ha, hv, hb, hc, _⟩ := Vec.app (ty := 41) eltEv v1 ok (B := some ⟨be2, 0, none⟩) (m := 1) (c := 1) (ys := [e2]) (v2.sl Ev.len) rfl (by show (1 + 1) * 40 ≤ _; omega) (by show 1 + 1 ≤ _; decide)
  exact ⟨be', A', cap', w', ha, hv, hb, hc⟩
theorem cgfield_li (c : Cg) (w : World) : (Instr.field 28 (.agg c.cells) 1).run Tryz.prog w = .ok (.int .i64 c.li) w := by kernel_rfl
attribute [local go_sem ↓] cgfield_li
theorem putC_eq (S : Mst) (Q : Co) (kd : Int) (e : Se) : putC S Q kd e = ⟨S, if sbV Q.rm Q.es e = 0 then nextC { Q with es := sbE Q.rm Q.es e } else Q, if sbV Q.rm Q.es e = 0 then [evC Q kd e.li e.wo e.va] else []⟩ := by unfold putC; split <;> rfl
/-- What changes one block that is none of these. -/
theorem CS.keep1 {W w w' : World} {c : Cg} {sy : Nat} {F : List Nat} {S : Mst} {kb pb qb b : Nat} {Q : Co} (h : CS W w c sy F S kb pb qb Q) (hc : Chg [b] w w') (h1 : b ∉ F) (h2 : b ≠ kb ∧ b ≠ pb ∧ b ≠ qb) (h3 : W.heap.size ≤ b) : CS W w' c sy F S kb pb qb Q :=
  ⟨Mem.keepL h.ms hc (fun k hk => by rw [List.mem_singleton] at hk; subst hk; exact h1) (fun k hk => by rw [List.mem_singleton] at hk; subst hk; exact h3), h.co.keep hc (by simpa using h2.1.symm) (by simpa using h2.2.1.symm) (by simpa using h2.2.2.symm), h.nk, h.np, h.nq, h.lk, h.lp, h.lq⟩
section
variable {W w : World} {c : Cg} {sy n : Nat} {F : List Nat} {S : Mst} {cur : Nat → List Int} {kb pb qb : Nat} {Q : Co} (h : CS W w c sy F S kb pb qb Q) (hI : Inv c n S cur) (hN : NN cur) (hn : n + 1 ≤ 1000000000) (hR : Roomy c S) (hR2 : ∀ li wo, Roomy c (loadM c S Q.id li wo).1) (hT : Tab W)
include h hI hN hn hR hR2 hT
theorem echange (i : Ins) (ha : 0 ≤ i.a ∧ i.a < 8) (hc : 0 ≤ i.c ∧ i.c < 8) (li wo : Int) (hp : Q.pc < 2147483648) : Calls Tryz.prog 87 #[.pointer (some ⟨kb, 0, none⟩), .pointer (some ⟨sy, 0, none⟩), .agg (insc i), .int .i64 li, .int .i64 wo] w (CSTo W w c sy F kb pb qb (changeC c S Q i li wo).S (changeC c S Q i li wo).Q (changeC c S Q i li wo).ev) := by
  obtain ⟨na, hna⟩ : ∃ n : Nat, i.a = (n : Int) := ⟨i.a.toNat, by omega⟩
  have la : na < 8 := by omega
  have la' : (na : Int) < 8 := by omega
  have h8 := h.co.ok.h8
  have hx : (w.alloc (.cells (insc i) 33)).heap[w.heap.size]? = some (.cells (insc i) 33 (0, 0)) := by simp
  have HCH : Chg [] w (w.alloc (.cells (insc i) 33)) := (Chg.refl [] w).alloc _
  have HNE := Lib.hid (show w.heap.size ≠ kb ∧ w.heap.size ∉ F ∧ w.heap.size ≠ qb from ⟨by have := h.co.oldk.lt; omega, fun hm => by have := h.old _ hm; omega, by have := h.co.oldq.lt; omega⟩)
  have H1 := Lib.hid (h.keep0 HCH)
  have hb1 := H1.out.co.own
  have HP := Lib.hid hp
  have HS1 := Lib.hid (dsettled H1.out.co)
  have UR := Lib.hid (ureach H1.out.ms hI (by omega) hR hT Q.id li)
  have UL := Lib.hid (fun (w' : World) (F' : List Nat) (h' : CS W w' c sy F' S kb pb qb Q) => uload h'.ms hI (by omega) hR hT Q.id li wo)
  have US := Lib.hid (fun (w' : World) (F' : List Nat) (v : Int) (h' : CS W w' c sy F' (loadM c S Q.id li wo).1 kb pb qb Q) => ustore h'.ms (hI.loadM Q.id li wo) hn (hR2 li wo) hT Q.id li wo v)
  have HRH := Lib.hid (fun hh => reach_hit hI hN h.co.ok.pos (Q := Q) (k := Q.id) (li := li) hh)
  have HV := Lib.hid (loadV_pos hI hN Q.id li wo)
  have HC1 := Lib.hid HCH
  unfold changeC
  clear h hI hN hn hR hR2 hT hp HCH
  generalize hw1 : w.alloc (.cells (insc i) 33) = w1 at *
  generalize hz : w.heap.size = p at *
  have ok1 := old hb1
  have op1 := old hx
  have n1 : ¬ p = kb := HNE.out.1
  have n2 : ¬ kb = p := fun e => HNE.out.1 e.symm
  cases hs : settledB Q
  · rw [hs] at HS1
    show Calls _ _ _ _ (CSTo W w c sy F kb pb qb S Q [])
    clear hs
    go_enter Tryz.func87, Tryz.ntmps87
    try dsimp only [List.append]
    go_wp2_with (go_at_call 81; refine HS1.out.mono ?_; rintro e w' ⟨rfl, rfl⟩)
    go_ret
    exact ⟨_, F, rfl, EvV.nil .., H1.out, HC1.out.mono (by simp), fun k hk => .inl hk⟩
  rw [hs] at HS1
  rw [if_pos rfl]
  clear hs
  cases hr : (reachM c S Q.id li).2.hit
  · rw [hr] at UR
    show Calls _ _ _ _ (CSTo W w c sy F kb pb qb (reachM c S Q.id li).1 Q [])
    generalize (reachM c S Q.id li).1 = S1 at *
    go_enter Tryz.func87, Tryz.ntmps87
    try dsimp only [List.append]
    go_wp2_with (first | (go_at_call 81; refine HS1.out.mono ?_; rintro e w' ⟨rfl, rfl⟩) | (go_at_call 140; refine UR.out.mono ?_; rintro e w2 ⟨rfl, m2⟩; have HM2 := Lib.hid m2; clear m2))
    go_ret
    obtain ⟨F2, h2, c2, k2⟩ := H1.out.step HM2.out
    exact ⟨_, F2, rfl, EvV.nil .., h2, (HC1.out.mono (by simp)).trans (chg_sys c2), fun k hk => (k2 k hk).imp id (Nat.le_trans HC1.out.size)⟩
  rw [hr, HRH.out hr] at UR
  rw [if_pos rfl, HRH.out hr]
  clear hr HRH
  have HCG := Lib.hid (fun (w' : World) (F' : List Nat) (S' : Mst) (h' : CS W w' c sy F' S' kb pb qb Q) => dchanged h'.co i ha hc (loadM c S Q.id li wo).2.v)
  generalize (loadM c S Q.id li wo).2.v = v at *
  generalize (loadM c S Q.id li wo).1 = S1 at *
  have HVV := Lib.hid (show 0 ≤ chgV Q i v from by unfold chgV; split; exact H1.out.co.ok.pos.reg _; exact u64_pos _)
  generalize chgV Q i v = cv at *
  rw [hna]
  clear ha hc
  cases hcb : chgB Q i v
  · rw [hcb] at HCG
    show Calls _ _ _ _ (CSTo W w c sy F kb pb qb S1 (nextC (setR Q na v)) [evC Q 4 li wo v])
    clear hcb
    go_enter Tryz.func87, Tryz.ntmps87
    try dsimp only [List.append]
    go_wp2_with (first | (go_at_call 81; refine HS1.out.mono ?_; rintro e w' ⟨rfl, rfl⟩) | (go_at_call 140; refine UR.out.mono ?_; rintro e w2 ⟨rfl, m2⟩; obtain ⟨F2, h2, c2, k2⟩ := H1.out.step m2; have H2 := Lib.hid h2; have C2 := Lib.hid c2; have K2 := Lib.hid k2; have hx2 := c2.keep hx HNE.out.2.1; have hb2 := h2.co.own; clear m2 h2 c2 k2 hb1))
    have NP2 := Lib.hid (show p ∉ F2 from fun hm => (K2.out p hm).elim HNE.out.2.1 (fun hm2 => by have := op1.lt; omega))
    clear hx
    refine (UL.out _ _ H2.out).mono ?_
    rintro e w3 ⟨rfl, m3⟩
    obtain ⟨F3, h3, c3, k3⟩ := H2.out.step m3
    have H3 := Lib.hid h3
    have C3 := Lib.hid c3
    have K3 := Lib.hid k3
    have hx3 := C3.out.keep hx2 NP2.out
    have hb3 := h3.co.own
    clear m3 h3 c3 k3 hx2 hb2
    go_wp2_with fail
    refine (cevent hb3 4 li wo v).mono ?_
    rintro e w4 ⟨rfl, c4⟩
    have C5 := Lib.hid (show Chg [] w3 (w4.alloc (.cells (evc ⟨4, Q.id, li, wo, v⟩) 45)) from c4.alloc _)
    have he5 : (w4.alloc (.cells (evc ⟨4, Q.id, li, wo, v⟩) 45)).heap[w4.heap.size]? = some (.cells (evc ⟨4, Q.id, li, wo, v⟩) 45 (0, 0)) := by simp
    have HB5 := Lib.hid (show w3.heap.size ≤ w4.heap.size from c4.size)
    have hx4 := c4.keep hx3 (by simp)
    have hb4 := c4.keep hb3 (by simp)
    have ox4 := old hx4
    have ob4 := old hb4
    clear c4
    go_wp2_with fail
    generalize hw5 : w4.alloc (.cells (evc ⟨4, Q.id, li, wo, v⟩) 45) = w5 at *
    generalize hbe : w4.heap.size = be at *
    refine (HCG.out w5 F3 S1 (H3.out.keep0 C5.out)).mono ?_
    rintro e w6 ⟨rfl, c6⟩
    have C6 := Lib.hid (C5.out.trans c6)
    have H6 := Lib.hid (H3.out.keep0 C6.out)
    have he6 := c6.keep he5 (by simp)
    have hx6 := C6.out.keep hx3 (by simp)
    have hb6 := H6.out.co.own
    have o6 := old hx6
    have ok6 := old hb6
    clear c6 he5 hx3 hb3 hw5 hbe hx4 hb4 ox4 ob4
    go_wp2_with fail
    go_region
    all_goals
      go_wp2_with fail
      have hN6 := C6.out.size
      have HF6 := H6.out.old
      have hbk : be ≠ kb := by have := H3.out.co.oldk.lt; have := HB5.out; omega
      have cS : Chg [kb] w6 (w6.setCell ⟨kb, 2 + na, none⟩ (.int .u64 v)).drew := ((Chg.refl [kb] w6).setCell kb _ _ (.inl (by simp))).drew
      have hC7 : Cor (w6.setCell ⟨kb, 2 + na, none⟩ (.int .u64 v)).drew kb pb qb (setR Q na v) := (H6.out.co.setReg la HV.out).keep0 (Chg.refl [] _).drew
      have hE7 : EvV (w6.setCell ⟨kb, 2 + na, none⟩ (.int .u64 v)).drew w3.heap.size kb F3 (.slice (some ⟨be, 0, none⟩) 1 1) [evC Q 4 li wo v] := EvV.one (cS.keep he6 (by simpa using hbk)) hbk HB5.out (fun hm => by have := H3.out.old _ hm; have := HB5.out; omega)
      refine (dnext hC7 (F := F3) (fun k hk => by have := HF6 k hk; have := cS.size; omega) hE7 HP.out).mono ?_
      rintro e w8 ⟨rfl, h1, h2, h3⟩
      go_wp2_with fail
      go_ret
      exact CSTo.from (HC1.out.mono (by simp)) (fun k hk => .inl hk) (CSTo.from (chg_sys C2.out) K2.out (CSTo.from (chg_sys C3.out) K3.out ⟨_, F3, rfl, h1, H6.out.core ((cS.mono (by simp)).trans (h3.mono (by simp))) h2, (C6.out.mono (by simp)).trans (chg_core ((cS.mono (by simp)).trans (h3.mono (by simp)))), fun k hk => .inl hk⟩))
  · rw [hcb] at HCG
    rw [if_pos rfl]
    show Calls _ _ _ _ (CSTo W w c sy F kb pb qb (storeM c S1 Q.id li wo cv).1 (nextC (setR Q na v)) [evC Q 4 li wo v, evC Q 3 li wo cv])
    clear hcb
    go_enter Tryz.func87, Tryz.ntmps87
    try dsimp only [List.append]
    go_wp2_with (first | (go_at_call 81; refine HS1.out.mono ?_; rintro e w' ⟨rfl, rfl⟩) | (go_at_call 140; refine UR.out.mono ?_; rintro e w2 ⟨rfl, m2⟩; obtain ⟨F2, h2, c2, k2⟩ := H1.out.step m2; have H2 := Lib.hid h2; have C2 := Lib.hid c2; have K2 := Lib.hid k2; have hx2 := c2.keep hx HNE.out.2.1; have hb2 := h2.co.own; clear m2 h2 c2 k2 hb1))
    have NP2 := Lib.hid (show p ∉ F2 from fun hm => (K2.out p hm).elim HNE.out.2.1 (fun hm2 => by have := op1.lt; omega))
    clear hx
    refine (UL.out _ _ H2.out).mono ?_
    rintro e w3 ⟨rfl, m3⟩
    obtain ⟨F3, h3, c3, k3⟩ := H2.out.step m3
    have H3 := Lib.hid h3
    have C3 := Lib.hid c3
    have K3 := Lib.hid k3
    have hx3 := C3.out.keep hx2 NP2.out
    have hb3 := h3.co.own
    clear m3 h3 c3 k3 hx2 hb2
    go_wp2_with fail
    refine (cevent hb3 4 li wo v).mono ?_
    rintro e w4 ⟨rfl, c4⟩
    have C5 := Lib.hid (show Chg [] w3 (w4.alloc (.cells (evc ⟨4, Q.id, li, wo, v⟩) 45)) from c4.alloc _)
    have he5 : (w4.alloc (.cells (evc ⟨4, Q.id, li, wo, v⟩) 45)).heap[w4.heap.size]? = some (.cells (evc ⟨4, Q.id, li, wo, v⟩) 45 (0, 0)) := by simp
    have HB5 := Lib.hid (show w3.heap.size ≤ w4.heap.size from c4.size)
    have hx4 := c4.keep hx3 (by simp)
    have hb4 := c4.keep hb3 (by simp)
    have ox4 := old hx4
    have ob4 := old hb4
    clear c4
    go_wp2_with fail
    generalize hw5 : w4.alloc (.cells (evc ⟨4, Q.id, li, wo, v⟩) 45) = w5 at *
    generalize hbe : w4.heap.size = be at *
    refine (HCG.out w5 F3 S1 (H3.out.keep0 C5.out)).mono ?_
    rintro e w6 ⟨rfl, c6⟩
    have C6 := Lib.hid (C5.out.trans c6)
    have H6 := Lib.hid (H3.out.keep0 C6.out)
    have he6 := c6.keep he5 (by simp)
    have hx6 := C6.out.keep hx3 (by simp)
    have hb6 := H6.out.co.own
    have o6 := old hx6
    have ok6 := old hb6
    have HPB := Lib.hid (show p ≠ be from by have := (old hx3).lt; have := HB5.out; omega)
    clear c6 he5 hx3 hb3 hw5 hbe hx4 hb4 ox4 ob4
    go_wp2_with fail
    have hbk : be ≠ kb := by have := H3.out.co.oldk.lt; have := HB5.out; omega
    have hbF : be ∉ F3 := fun hm => by have := H3.out.old _ hm; have := HB5.out; omega
    have HBK := Lib.hid hbk
    refine (US.out w6 F3 cv H6.out).mono ?_
    rintro e w7 ⟨rfl, m7⟩
    obtain ⟨F7, h7, c7, k7⟩ := H6.out.step m7
    have H7 := Lib.hid h7
    have C7 := Lib.hid c7
    have K7 := Lib.hid k7
    have he7 := c7.keep he6 hbF
    have hx7 := c7.keep hx6 (fun hm => (K3.out p hm).elim NP2.out (fun h => by have := (old hx6).lt; have h8 := C2.out.size; have h9 := HC1.out.size; have := op1.lt; omega))
    have hb7 := h7.co.own
    have HBF := Lib.hid (show be ∉ F7 from fun hm => (k7 be hm).elim hbF (fun h => by have := (old he6).lt; omega))
    clear m7 h7 c7 k7 he6 hx6 hb6 o6 ok6 hbk hbF
    go_wp2_with fail
    refine (cevent hb7 3 li wo cv).mono ?_
    rintro e w8 ⟨rfl, c8⟩
    have C9 := Lib.hid (show Chg [] w7 (w8.alloc (.cells (evc ⟨3, Q.id, li, wo, cv⟩) 45)) from c8.alloc _)
    have he9 := C9.out.keep he7 (by simp)
    have hx9 := C9.out.keep hx7 (by simp)
    have hb9 := C9.out.keep hb7 (by simp)
    have hf9 : (w8.alloc (.cells (evc ⟨3, Q.id, li, wo, cv⟩) 45)).heap[w8.heap.size]? = some (.cells (evc ⟨3, Q.id, li, wo, cv⟩) 45 (0, 0)) := by simp
    have HZ9 := Lib.hid (show w7.heap.size ≤ w8.heap.size from c8.size)
    have hx8 := c8.keep hx7 (by simp)
    have hb8 := c8.keep hb7 (by simp)
    have he8 := c8.keep he7 (by simp)
    have ox8 := old hx8
    have ob8 := old hb8
    have oe8 := old he8
    obtain ⟨bq, Aq, cq, w10, happ, hvec, hbq, hcq⟩ := ev_append he9 hf9 HBK.out (by have := (old hb7).lt; have := HZ9.out; omega) (old hb9)
    have HVEC := Lib.hid hvec
    have HBQ := Lib.hid hbq
    have C10 := Lib.hid hcq
    have hx10 := hcq.keep hx9 (show p ∉ [be] from by simpa using fun e => HPB.out e)
    have hb10 := hcq.keep hb9 (show kb ∉ [be] from by simpa using fun e => HBK.out e.symm)
    have ox10 := old hx10
    have ob10 := old hb10
    clear hvec hbq hcq c8 he7 hx7 hb7 he9 hx9 hb9 hf9
    go_wp2_with fail
    have hbp : be ≠ pb ∧ be ≠ qb := by have := H3.out.co.oldp.lt; have := H3.out.co.oldq.lt; have := HB5.out; omega
    have hWb : W.heap.size ≤ be := by have := H3.out.lk; have := H3.out.co.oldk.lt; have := HB5.out; omega
    have H10 := Lib.hid ((H7.out.keep0 C9.out).keep1 C10.out HBF.out ⟨HBK.out, hbp⟩ hWb)
    have HE10 := Lib.hid (show EvV w10 w3.heap.size kb F7 (.slice Aq 2 cq) [evC Q 4 li wo v, evC Q 3 li wo cv] from ⟨Aq, cq, bq, rfl, HVEC.out, .inr (by
      have e3 := HB5.out
      have e9 := C9.out.size
      have e7 := C7.out.size
      have e6 := C6.out.size
      rcases HBQ.out with e | e <;> omega), .inr (fun hm => by
      have e9 := C9.out.size
      have e7 := H7.out.old _ hm
      rcases HBQ.out with e | e
      · rw [e] at hm; exact HBF.out hm
      · omega)⟩)
    clear hbp hWb happ hx8 hb8 he8 ox8 ob8 oe8
    go_region
    all_goals
      go_wp2_with fail
      have HF10 := H10.out.old
      have cS : Chg [kb] w10 (w10.setCell ⟨kb, 2 + na, none⟩ (.int .u64 v)).drew := ((Chg.refl [kb] w10).setCell kb _ _ (.inl (by simp))).drew
      have hC7 : Cor (w10.setCell ⟨kb, 2 + na, none⟩ (.int .u64 v)).drew kb pb qb (setR Q na v) := (H10.out.co.setReg la HV.out).keep0 (Chg.refl [] _).drew
      refine (dnext hC7 (F := F7) (fun k hk => by have := HF10 k hk; have := cS.size; omega) (HE10.out.keep cS (fun x _ hx _ => by simpa using hx)) HP.out).mono ?_
      rintro e w11 ⟨rfl, h1, h2, h3⟩
      go_wp2_with fail
      go_ret
      have cA : Chg F3 w3 w10 := (((C6.out.mono (l' := F3) (by simp)).trans C7.out).trans (C9.out.mono (by simp))).trans' C10.out (fun x hx => .inr (by
        rw [List.mem_singleton] at hx
        rw [hx]
        exact HB5.out))
      have cB : Chg [kb, pb, qb] w10 w11 := (cS.mono (by simp)).trans (h3.mono (by simp))
      exact CSTo.from (HC1.out.mono (by simp)) (fun k hk => .inl hk) (CSTo.from (chg_sys C2.out) K2.out (CSTo.from (chg_sys C3.out) K3.out ⟨_, F7, rfl, h1, H10.out.core cB h2, (chg_sys cA).trans (chg_core cB), fun k hk => (K7.out k hk).imp id (Nat.le_trans C6.out.size)⟩))
theorem eaccess (i : Ins) (hg : goodI i = true) (hop : i.op = 8 ∨ i.op = 9 ∨ i.op = 10 ∨ i.op = 11 ∨ i.op = 12 ∨ i.op = 13 ∨ i.op = 14) (hp : Q.pc < 2147483648) : Calls Tryz.prog 48 #[.pointer (some ⟨kb, 0, none⟩), .pointer (some ⟨sy, 0, none⟩), .agg (insc i)] w (CSTo W w c sy F kb pb qb (accessC c S Q i).S (accessC c S Q i).Q (accessC c S Q i).ev) := by
  obtain ⟨_, ha, hb, hc, _, _⟩ := goodI_parts hg
  obtain ⟨na, hna⟩ : ∃ n : Nat, i.a = (n : Int) := ⟨i.a.toNat, by omega⟩
  obtain ⟨nb, hnb⟩ : ∃ n : Nat, i.b = (n : Int) := ⟨i.b.toNat, by omega⟩
  have ea : regA Q i.a = regN Q.rg na := by unfold regA; rw [hna, Int.toNat_natCast]
  have eb : regA Q i.b = regN Q.rg nb := by unfold regA; rw [hnb, Int.toNat_natCast]
  have la : na < 8 := by omega
  have lb : nb < 8 := by omega
  have la' : (na : Int) < 8 := by omega
  have lb' : (nb : Int) < 8 := by omega
  have h8 := h.co.ok.h8
  have hx : (w.alloc (.cells (insc i) 33)).heap[w.heap.size]? = some (.cells (insc i) 33 (0, 0)) := by simp
  have HCH : Chg [] w (w.alloc (.cells (insc i) 33)) := (Chg.refl [] w).alloc _
  have H1 := Lib.hid (h.keep0 HCH)
  have hb1 := H1.out.co.own
  have HP := Lib.hid hp
  have HC1 := Lib.hid HCH
  have HOP := Lib.hid hop
  have ad0 : 0 ≤ addrI Q i ∧ addrI Q i < 18446744073709551616 := by unfold addrI; rw [u64_w]; omega
  have AD := Lib.hid ad0
  have HLI := Lib.hid (show 1 ≤ (c.li : Int) ∧ (c.li : Int) ≤ 64 from ⟨by have := hI.ok.li2; omega, by have := hI.ok.li64; omega⟩)
  have EL := Lib.hid (fun (w' : World) (h' : CS W w' c sy F S kb pb qb Q) (li wo : Int) => eload h' hI hN (by omega) hR hT (na : Int) (by omega) li wo hp)
  have EC := Lib.hid (fun (w' : World) (h' : CS W w' c sy F S kb pb qb Q) (li wo : Int) => echange h' hI hN hn hR hR2 hT i ha hc li wo hp)
  have EP := Lib.hid (fun (w' : World) (h' : CS W w' c sy F S kb pb qb Q) (kd : Int) (x : Se) (hx : 0 ≤ x.va) => show Calls _ _ _ _ (CSTo W w' c sy F kb pb qb (putC S Q kd x).S (putC S Q kd x).Q (putC S Q kd x).ev) from by rw [putC_eq]; exact (dput h'.co h'.old kd x hx hp).mono fun e w' hd => h'.ofCo hd)
  have ED := Lib.hid (fun (w' : World) (h' : CS W w' c sy F S kb pb qb Q) (kd : Int) => (dend h'.co h'.old kd).mono fun e w' hd => h'.ofCo hd)
  have EA := Lib.hid (show addrI Q i = IntKind.u64.wrap (regN Q.rg nb + IntKind.u64.wrap i.im) from by unfold addrI; rw [eb])
  have RP := Lib.hid (show 0 ≤ regN Q.rg na from by have := h.co.ok.pos.reg i.a; rw [ea] at this; exact this)
  have GS := Lib.hid (fun (w' : World) => gsum_any (regN Q.rg nb) i.im w')
  unfold accessC
  rw [ea]
  generalize hw1 : w.alloc (.cells (insc i) 33) = w1 at *
  generalize hz : w.heap.size = p at *
  rw [← EA.out] at GS
  generalize addrI Q i = ad at *
  have R1 : ∀ y : Aft w1.heap.size w1, y.w.heap[p]? = some (.cells (insc i) 33 (0, 0)) := fun y => (y.block (old hx).lt).trans hx
  have R2 : ∀ y : Aft w1.heap.size w1, y.w.heap[kb]? = some (.cells (coc Q.id Q.ru Q.rg pb Q.pr.length Q.pc qb Q.wt) 98 (0, 0)) := fun y => (y.block (old hb1).lt).trans hb1
  have ob1 := old hb1
  have ox1 := old hx
  clear h hI hN hn hR hR2 hT hp HCH hop ad0 ea eb hg
  cases hat : atB c.li ad
  · show Calls _ _ _ _ (CSTo W w c sy F kb pb qb S (stopC Q) [evC Q 10 0 0 0])
    have HAT := Lib.hid (fun w' => at_no13 c.li ad w' HLI.out.1 HLI.out.2 AD.out.1 AD.out.2 hat)
    clear hat
    go_enter Tryz.func48, Tryz.ntmps48
    try dsimp only [List.append]
    go_wp2_with fail
    refine wp_region_aft w1.heap.size (by kernel_rfl) (by kernel_rfl) ?_
    repeat (go_big_quiet_step (first | (go_at_call 82; exact calls_aft_same (GS.out _))))
    refine wpQuiet_nil ?_
    rintro _ ⟨y, rfl⟩
    have CY := Lib.hid (Below.chg y.below (Nat.le_refl _))
    have HY := Lib.hid (H1.out.keep0 CY.out)
    have r1 := R1 y
    have r2 := R2 y
    go_wp2_with (first | (go_at_call 84; refine (mconfig_ok HY.out.ms).mono ?_; rintro e w3 ⟨rfl, c3⟩; have H3 := Lib.hid (HY.out.keep0 c3); have C3 := Lib.hid c3; clear c3) | (go_at_call 83; refine (HAT.out _).mono ?_; rintro e w' ⟨rfl, rfl⟩) | (go_at_call 42; refine (ED.out _ H3.out 10).mono ?_; rintro e w4 ⟨v, F', rfl, hd⟩))
    go_ret
    exact CSTo.from (((HC1.out.trans CY.out).trans C3.out).mono (by simp)) (fun k hk => .inl hk) ⟨v, F', rfl, hd⟩
  · have HAT := Lib.hid (fun w' => at_yes13 c.li ad w' HLI.out.1 HLI.out.2 AD.out.1 hat)
    clear hat
    generalize lineOf ad = li at *
    generalize wordOf ad = wo at *
    rcases HOP.out with hk | hk | hk | hk | hk
    · rw [if_pos rfl, if_pos hk, hna]
      have k8 : (i.op == 8) = true := by simp [hk]
      clear hk HOP
      go_enter Tryz.func48, Tryz.ntmps48
      try dsimp only [List.append]
      go_wp2_with fail
      refine wp_region_aft w1.heap.size (by kernel_rfl) (by kernel_rfl) ?_
      repeat (go_big_quiet_step (first | (go_at_call 82; exact calls_aft_same (GS.out _))))
      refine wpQuiet_nil ?_
      rintro _ ⟨y, rfl⟩
      have CY := Lib.hid (Below.chg y.below (Nat.le_refl _))
      have HY := Lib.hid (H1.out.keep0 CY.out)
      have r1 := R1 y
      have r2 := R2 y
      go_wp2_with (first | (go_at_call 84; refine (mconfig_ok HY.out.ms).mono ?_; rintro e w3 ⟨rfl, c3⟩; have r13 := c3.keep r1 (by simp); have r23 := c3.keep r2 (by simp); have H3 := Lib.hid (HY.out.keep0 c3); have C3 := Lib.hid c3; clear c3 r1 r2) | (go_at_call 83; refine (HAT.out _).mono ?_; rintro e w' ⟨rfl, rfl⟩))
      refine (EL.out _ H3.out li wo).mono ?_
      rintro e w4 ⟨v, F', rfl, hd⟩
      go_wp2_with fail
      go_ret
      exact CSTo.from (((HC1.out.trans CY.out).trans C3.out).mono (by simp)) (fun k hk => .inl hk) ⟨v, F', rfl, hd⟩
    · rw [if_pos rfl, if_neg (by omega), if_pos hk]
      have k8 : (i.op == 8) = false := by simp [hk]
      have k9 : (i.op == 9) = true := by simp [hk]
      have HK := Lib.hid hk
      clear hk HOP
      go_enter Tryz.func48, Tryz.ntmps48
      try dsimp only [List.append]
      go_wp2_with fail
      refine wp_region_aft w1.heap.size (by kernel_rfl) (by kernel_rfl) ?_
      repeat (go_big_quiet_step (first | (go_at_call 82; exact calls_aft_same (GS.out _))))
      refine wpQuiet_nil ?_
      rintro _ ⟨y, rfl⟩
      have CY := Lib.hid (Below.chg y.below (Nat.le_refl _))
      have HY := Lib.hid (H1.out.keep0 CY.out)
      have r1 := R1 y
      have r2 := R2 y
      go_wp2_with (first | (go_at_call 84; refine (mconfig_ok HY.out.ms).mono ?_; rintro e w3 ⟨rfl, c3⟩; have r13 := c3.keep r1 (by simp); have r23 := c3.keep r2 (by simp); have H3 := Lib.hid (HY.out.keep0 c3); have C3 := Lib.hid c3; clear c3 r1 r2) | (go_at_call 83; refine (HAT.out _).mono ?_; rintro e w' ⟨rfl, rfl⟩))
      go_still_tail 13, (by kernel_rfl)
      change wpList _ _ _ _ _ w3.drew
      have C4 := Lib.hid ((Chg.refl [] w3).drew)
      have H4 := Lib.hid (H3.out.keep0 C4.out)
      generalize w3.drew = w4 at *
      go_wp2_with fail
      rw [HK.out]
      refine (EP.out _ H4.out 12 ⟨9, li, wo, regN Q.rg na, false⟩ RP.out).mono ?_
      rintro e w5 ⟨v, F', rfl, hd⟩
      go_wp2_with fail
      go_ret
      exact CSTo.from (((((HC1.out.trans CY.out).trans C3.out).trans C4.out).mono (by simp))) (fun k hk => .inl hk) ⟨v, F', rfl, hd⟩
    · rw [if_pos rfl, if_neg (by omega), if_neg (by omega), if_pos (by omega)]
      have k8 : (i.op == 8) = false := by simp [hk]
      have k9 : (i.op == 9) = false := by simp [hk]
      have k10 : (i.op == 10) = true := by simp [hk]
      clear hk HOP
      go_enter Tryz.func48, Tryz.ntmps48
      try dsimp only [List.append]
      go_wp2_with fail
      refine wp_region_aft w1.heap.size (by kernel_rfl) (by kernel_rfl) ?_
      repeat (go_big_quiet_step (first | (go_at_call 82; exact calls_aft_same (GS.out _))))
      refine wpQuiet_nil ?_
      rintro _ ⟨y, rfl⟩
      have CY := Lib.hid (Below.chg y.below (Nat.le_refl _))
      have HY := Lib.hid (H1.out.keep0 CY.out)
      have r1 := R1 y
      have r2 := R2 y
      go_wp2_with (first | (go_at_call 84; refine (mconfig_ok HY.out.ms).mono ?_; rintro e w3 ⟨rfl, c3⟩; have r13 := c3.keep r1 (by simp); have r23 := c3.keep r2 (by simp); have H3 := Lib.hid (HY.out.keep0 c3); have C3 := Lib.hid c3; clear c3 r1 r2) | (go_at_call 83; refine (HAT.out _).mono ?_; rintro e w' ⟨rfl, rfl⟩))
      refine (EC.out _ H3.out li wo).mono ?_
      rintro e w4 ⟨v, F', rfl, hd⟩
      go_wp2_with fail
      go_ret
      exact CSTo.from (((HC1.out.trans CY.out).trans C3.out).mono (by simp)) (fun k hk => .inl hk) ⟨v, F', rfl, hd⟩
    · rw [if_pos rfl, if_neg (by omega), if_neg (by omega), if_pos (by omega)]
      have k8 : (i.op == 8) = false := by simp [hk]
      have k9 : (i.op == 9) = false := by simp [hk]
      have k10 : (i.op == 10) = false := by simp [hk]
      have k11 : (i.op == 11) = true := by simp [hk]
      clear hk HOP
      go_enter Tryz.func48, Tryz.ntmps48
      try dsimp only [List.append]
      go_wp2_with fail
      refine wp_region_aft w1.heap.size (by kernel_rfl) (by kernel_rfl) ?_
      repeat (go_big_quiet_step (first | (go_at_call 82; exact calls_aft_same (GS.out _))))
      refine wpQuiet_nil ?_
      rintro _ ⟨y, rfl⟩
      have CY := Lib.hid (Below.chg y.below (Nat.le_refl _))
      have HY := Lib.hid (H1.out.keep0 CY.out)
      have r1 := R1 y
      have r2 := R2 y
      go_wp2_with (first | (go_at_call 84; refine (mconfig_ok HY.out.ms).mono ?_; rintro e w3 ⟨rfl, c3⟩; have r13 := c3.keep r1 (by simp); have r23 := c3.keep r2 (by simp); have H3 := Lib.hid (HY.out.keep0 c3); have C3 := Lib.hid c3; clear c3 r1 r2) | (go_at_call 83; refine (HAT.out _).mono ?_; rintro e w' ⟨rfl, rfl⟩))
      refine (EC.out _ H3.out li wo).mono ?_
      rintro e w4 ⟨v, F', rfl, hd⟩
      go_wp2_with fail
      go_ret
      exact CSTo.from (((HC1.out.trans CY.out).trans C3.out).mono (by simp)) (fun k hk => .inl hk) ⟨v, F', rfl, hd⟩
    · rw [if_pos rfl, if_neg (by omega), if_neg (by omega), if_neg (by omega)]
      have k8 : (i.op == 8) = false := by rw [beq_eq_false_iff_ne]; omega
      have k9 : (i.op == 9) = false := by rw [beq_eq_false_iff_ne]; omega
      have k10 : (i.op == 10) = false := by rw [beq_eq_false_iff_ne]; omega
      have k11 : (i.op == 11) = false := by rw [beq_eq_false_iff_ne]; omega
      clear hk HOP
      go_enter Tryz.func48, Tryz.ntmps48
      try dsimp only [List.append]
      go_wp2_with fail
      refine wp_region_aft w1.heap.size (by kernel_rfl) (by kernel_rfl) ?_
      repeat (go_big_quiet_step (first | (go_at_call 82; exact calls_aft_same (GS.out _))))
      refine wpQuiet_nil ?_
      rintro _ ⟨y, rfl⟩
      have CY := Lib.hid (Below.chg y.below (Nat.le_refl _))
      have HY := Lib.hid (H1.out.keep0 CY.out)
      have r1 := R1 y
      have r2 := R2 y
      go_wp2_with (first | (go_at_call 84; refine (mconfig_ok HY.out.ms).mono ?_; rintro e w3 ⟨rfl, c3⟩; have r13 := c3.keep r1 (by simp); have r23 := c3.keep r2 (by simp); have H3 := Lib.hid (HY.out.keep0 c3); have C3 := Lib.hid c3; clear c3 r1 r2) | (go_at_call 83; refine (HAT.out _).mono ?_; rintro e w' ⟨rfl, rfl⟩))
      refine (EP.out _ H3.out 14 ⟨i.op, li, 0, 0, false⟩ (Int.le_refl _)).mono ?_
      rintro e w5 ⟨v, F', rfl, hd⟩
      go_wp2_with fail
      go_ret
      exact CSTo.from ((((HC1.out.trans CY.out).trans C3.out).mono (by simp))) (fun k hk => .inl hk) ⟨v, F', rfl, hd⟩
end
end Go.Proofs.YtcjoinhngdfdmaaGreatDoor
end
section
namespace Go.Proofs.YtcjoinhngdfdmaaGreatDoor
open Go.RowKit
set_option linter.unusedVariables false
set_option maxHeartbeats 1000000

set_option maxRecDepth 100000
attribute [local go_sem ↓] append_appS copy_copS clear_clrS make_mkS cell_row frozen_row heap_drew heap_drewN heap_alloc heap_past heap_setCell heap_putRow loadSe storeSe loadIns storeIns loadEv storeEv loadRg storeRg sec_kd sec_li sec_wo sec_va sec_sn insc_op insc_a insc_b insc_c insc_im evc_kd evc_co evc_li evc_wo evc_va coc_id coc_ru coc_reg coc_pr coc_pc coc_qb coc_wt
attribute [local go_sem] rowCell_some rowFrozen_some rowHas_some rowIn_some rowPart_full rowPart_lit rowPut_full rowPut_lit rowSet_some size_putRow run_loadS run_storeS run_appS run_copS run_clrS run_mkS loadW_at storeW_at fit_all fit_le one_int one_bool one_pointer one_slice allOne_list putRow_new ne_size1 ne_size2 ne_size3 ne_size4 wideSe wideIns wideEv wideRg sec_size sec_one sec_lit sec_z sec_ne sec_set0 sec_set1 sec_set2 sec_set3 sec_set4 seZ_kd seZ_li seZ_wo seZ_va seZ_sn fold_sec insc_size insc_one insc_ne insc_lit insc_z fold_insc evc_size evc_one evc_ne evc_lit evc_z evc_set0 evc_set1 evc_set2 evc_set3 evc_set4 evZ_kd evZ_co evZ_li evZ_wo evZ_va fold_evc coc_setRu coc_size coc_one coc_setPc coc_setWt coc_setReg coc_regs coc_regsIn vs_size vs_one
attribute [local simp ↓] heap_drew heap_drewN heap_alloc heap_past heap_setCell heap_putRow
attribute [local simp] rowCell_some rowFrozen_some rowHas_some rowIn_some rowPart_full rowPart_lit rowPut_full rowPut_lit rowSet_some size_putRow fit_all putRow_new ne_size1 ne_size2 ne_size3 ne_size4 sec_size insc_size evc_size coc_size coc_setRu coc_setPc coc_setWt coc_setReg vs_size fit_le
attribute [local go_sem ↓] heap_drewN
/-- A word is read. -/
theorem Cor.read {w w' : World} {kb pb qb : Nat} {Q : Co} {u : Int} {r : Bool} (h : Cor w kb pb qb Q) (hx : Q.pr[Q.pc]? = some (u, r)) (hc : Chg [pb] w w') (hs : Sts w' pb ((Q.pr.set Q.pc (u, true)).map stp)) : Cor w' kb pb qb (readC Q u) := by
  have hn := (List.getElem?_eq_some_iff.1 hx).1
  have hl : (Q.pr.set Q.pc (u, true)).length = Q.pr.length := List.length_set
  refine ⟨?_, hs, h.buf.keep hc (by simpa using h.pq.symm), h.kp, h.kq, h.pq, ⟨h.ok.h8, h.ok.pc, by show (Q.pr.set _ _).length ≤ _; rw [hl]; exact h.ok.np, ?_, h.ok.wt, h.ok.id, h.ok.pos.read u⟩⟩
  · show w'.heap[kb]? = some (.cells (coc Q.id Q.ru Q.rg pb (Q.pr.set Q.pc (u, true)).length Q.pc qb Q.wt) _ _)
    rw [hl]
    exact hc.keep h.own (by simpa using h.kp)
  · intro x hm
    rcases List.mem_or_eq_of_mem_set hm with h1 | rfl
    · exact h.ok.pr x h1
    · exact h.ok.pr (u, r) (List.mem_of_getElem? hx)
section
variable {w : World} {kb pb qb : Nat} {Q : Co} (hC : Cor w kb pb qb Q)
include hC
theorem dhere_none (hx : Q.pr.length ≤ Q.pc) : Calls Tryz.prog 41 #[.pointer (some ⟨kb, 0, none⟩)] w fun e w' => e = .returned (.tuple #[.agg (insc insZ), .bool false]) ∧ Chg [] w w' := by
  have h8 := hC.ok.h8
  have hb := hC.own
  have ob := old hb
  have hz : (w.alloc (.cells (insc insZ) 33)).heap[w.heap.size]? = some (.cells (insc insZ) 33 (0, 0)) := by simp
  have HC1 := Lib.hid ((Chg.refl [] w).alloc (.cells (insc insZ) 33))
  have hb1 := HC1.out.keep hb (by simp)
  have hlt : (Q.pr.length : Int) ≤ (Q.pc : Int) := by omega
  clear hC hx
  generalize Q.pr.length = np at *
  generalize Q.pc = pc at *
  go_enter Tryz.func41, Tryz.ntmps41
  go_wp2_with fail
  go_quiet (fail)
  go_wp2_with fail
  refine bodyPost_ret (v := .tuple #[.agg (insc insZ), .bool false]) (results_ins2 (by rfl) _ _ w.heap.size insZ (0, 0) (by rfl) (by rw [heap_putRow _ _ _ _ _ (by simp [rowHas, Fit, insc_size]), if_pos rfl]; simp) _ (by rfl)) (by rfl) ⟨rfl, (HC1.out.drewN _).putRow _ _ _ (.inr (Nat.le_refl _))⟩
theorem dhere {u : Int} {r : Bool} (hx : Q.pr[Q.pc]? = some (u, r)) : Calls Tryz.prog 41 #[.pointer (some ⟨kb, 0, none⟩)] w fun e w' => e = .returned (.tuple #[.agg (insc (decI u)), .bool (decB u)]) ∧ Cor w' kb pb qb (readC Q u) ∧ Chg [pb] w w' := by
  have hn := (List.getElem?_eq_some_iff.1 hx).1
  have h8 := hC.ok.h8
  have hb := hC.own
  have ob := old hb
  have hu := hC.ok.pr _ (List.mem_of_getElem? hx)
  have hz : (w.alloc (.cells (insc insZ) 33)).heap[w.heap.size]? = some (.cells (insc insZ) 33 (0, 0)) := by simp
  have HC1 := Lib.hid ((Chg.refl [] w).alloc (.cells (insc insZ) 33))
  have HC := Lib.hid (hC.keep0 HC1.out)
  have hb1 := HC.out.own
  have HX := Lib.hid hx
  have HI := Lib.hid (fun (w' : World) (h : Cor w' kb pb qb Q) => oins h.steps hx hu.1 hu.2)
  have HR := Lib.hid (fun (w' w'' : World) (h : Cor w' kb pb qb Q) (hc : Chg [pb] w' w'') hs => h.read hx hc hs)
  have hlt : (Q.pc : Int) < (Q.pr.length : Int) := by omega
  have hlt2 : decide ((Q.pr.length : Int) ≤ (Q.pc : Int)) = false := by simp; omega
  have h0 : (0 : Int) ≤ (Q.pc : Int) := by omega
  have HPP := Lib.hid (show w.heap.size ≠ kb ∧ w.heap.size ≠ pb ∧ w.heap.size ≠ qb from by have := hC.oldk.lt; have := hC.oldp.lt; have := hC.oldq.lt; omega)
  clear hC hx hn hu
  generalize hnp : Q.pr.length = np at *
  generalize hpc : Q.pc = pc at *
  generalize hw1 : w.alloc (.cells (insc insZ) 33) = w1 at *
  generalize hzz : w.heap.size = p at *
  go_enter Tryz.func41, Tryz.ntmps41
  go_wp2_with fail
  go_quiet (fail)
  go_wp2_with fail
  have n1 : ¬ p = kb := HPP.out.1
  have n2 : ¬ kb = p := fun e => HPP.out.1 e.symm
  have HQ := Lib.hid ((Chg.refl [] w1).drewN nq)
  have HC2 := Lib.hid (HC.out.keep0 HQ.out)
  have hz2 := HQ.out.keep hz (by simp)
  have hb2 := HQ.out.keep hb1 (by simp)
  have HG2 := Lib.hid (HC1.out.trans HQ.out)
  clear hz hb1 HQ
  generalize w1.drewN nq = w2 at *
  have hb2d := ((Chg.refl [] w2).drew).keep hb2 (by simp)
  have hz2d := ((Chg.refl [] w2).drew).keep hz2 (by simp)
  go_region_held3 (fun w' => w'.heap[kb]? = some (.cells (coc Q.id Q.ru Q.rg pb np pc qb Q.wt) 98 (0, 0)))
    (first | with_reducible exact hb2d | with_reducible exact hb4 | (rw [heap_putRow _ _ _ _ _ (by simp [hz4, rowHas, Fit, insc_size]), if_neg n2]; with_reducible exact hb4))
    (first | (go_at_call 78; refine (HI.out _ (HC2.out.keep0 ((Chg.refl [] w2).drew))).mono ?_; rintro e w4 ⟨rfl, c4, s4⟩; have hz4 := c4.keep hz2d (by simpa using HPP.out.2.1); have hb4 := c4.keep hb2d (by simpa using HC2.out.kp)))
  all_goals
    rename World => w4
    go_wp2_with fail
    have cp : Chg [p] w4 (putRow w4 p 0 (insc (decI u))) := (Chg.refl [p] w4).putRow p 0 _ (.inl (by simp))
    refine bodyPost_ret (v := .tuple #[.agg (insc (decI u)), .bool (decB u)]) (results_ins2 (by rfl) _ _ p (decI u) (0, 0) (by rfl) (by rw [heap_putRow _ _ _ _ _ (by rw [hz4]; simp [rowHas, Fit, insc_size]), if_pos rfl, hz4]; exact rowPut_full _ _ _ _ (by rw [insc_size, insc_size])) _ (by rfl)) (by rfl) ⟨rfl, (HR.out _ _ (HC2.out.keep0 ((Chg.refl [] w2).drew)) c4 s4).keep cp (by simpa using n2) (by simpa using fun e => HPP.out.2.1 e.symm) (by simpa using fun e => HPP.out.2.2 e.symm), (((HG2.out.drew.mono (by simp)).trans c4).putRow p 0 _ (.inr (by omega)))⟩
end
end Go.Proofs.YtcjoinhngdfdmaaGreatDoor
end
section
namespace Go.Proofs.YtcjoinhngdfdmaaGreatDoor
open Go.RowKit
set_option linter.unusedVariables false
set_option maxHeartbeats 1000000


/-! ### A region whose last operations are in one order, and whose others call what makes memory: one walk serves -/
section
variable {P : Program} {md : Region.Mode} {ops : Array Oper} {C : World → Prop}
/-- The ways through the first n operations, in every world of the class; L behind them. -/
def waysQ (P : Program) (md : Region.Mode) (ops : Array Oper) (C : World → Prop) (n : Nat) (L : Array Bool → Act → Prop) : Nat → Array Bool → Act → Prop
  | 0, ls, a => L ls a
  | f + 1, ls, a => Region.ready md ops ls ≠ [] ∧ ∀ i ∈ Region.ready md ops ls, i < n ∧ qOp P ops C i (waysQ P md ops C n L f (ls.setIfInBounds i true)) a
theorem waysQ.any {n g : Nat} {L : Array Bool → Act → Prop} {Q' : Exit → Act → World → Prop} (hL : ∀ ls a w, C w → L ls a → wpAny P md ops Q' g ls a w) :
    ∀ (f : Nat) (ls : Array Bool) (a : Act) (w : World), C w → waysQ P md ops C n L f ls a → wpAny P md ops Q' (f + g) ls a w := by
  intro f
  induction f with
  | zero =>
    intro ls a w hw h
    rw [Nat.zero_add]
    exact hL ls a w hw h
  | succ f ih =>
    intro ls a w hw h
    rw [Nat.add_right_comm]
    exact ⟨fun e => (h.1 e).elim, fun i hi => wpOp_of_qOp hw (fun a' w' hw' h' => ih _ a' w' hw' h') (h.2 i hi).2⟩
/-- An operation that may come now may come first. -/
theorem waysQ.first {n i : Nat} {oi : Oper} {v : Value} {L : Array Bool → Act → Prop} (hi : ops[i]? = some oi) (hsel : ∀ (j : Nat) (o : Oper) cs b, ops[j]? = some o → o.op ≠ .select cs b)
    (hs : Region.sinkB md ops n = true) (hc : Region.chainB md ops n = true) (hn : n < ops.size) (hin : i < n) (hend : ∀ ls a, L ls a → ∀ j ∈ Region.ready md ops ls, n ≤ j) :
    ∀ (f : Nat) (ls : Array Bool) (a : Act), HeadInv md ops n ls → (∀ j oj, ops[j]? = some oj → j ≠ i → ls.getD j true = false → (∀ e ∈ oj.after, Region.binds md e = true → e.on ≠ i) → oi.apart ops oj = true) →
      i ∈ Region.ready md ops ls → YieldsIn P ops C oi v a → waysQ P md ops C n L f (ls.setIfInBounds i true) (a.put oi.dst v) → waysQ P md ops C n L (f + 1) ls a := by
  intro f
  induction f with
  | zero =>
    intro ls a inv _ hr hy H
    refine ⟨fun e => (by rw [e] at hr; cases hr), fun j hj => ?_⟩
    have hjn : j < n := Nat.lt_of_not_le fun e => tail_waits hs hc hn inv _ i rfl hin (mem_ready.1 hr).1 j e hj
    refine ⟨hjn, ?_⟩
    by_cases hji : j = i
    · rw [hji]; exact hy.qOp hi H
    · exact absurd hjn (Nat.not_lt_of_le (hend _ _ H j (ready_mono hj hji)))
  | succ f ih =>
    intro ls a inv hfree hr hy H
    refine ⟨fun e => (by rw [e] at hr; cases hr), fun j hj => ?_⟩
    have hjn : j < n := Nat.lt_of_not_le fun e => tail_waits hs hc hn inv _ i rfl hin (mem_ready.1 hr).1 j e hj
    refine ⟨hjn, ?_⟩
    by_cases hji : j = i
    · rw [hji]; exact hy.qOp hi H
    · obtain ⟨hju, oj, hoj, hall⟩ := mem_ready.1 hj
      have hno : ∀ e ∈ oj.after, Region.binds md e = true → e.on ≠ i := by
        intro e he hb heq
        have h1 := hall e he hb
        rw [heq, getD_both (mem_ready.1 hr).1] at h1
        cases h1
      refine qOp_mono (fun a' h3 => ih _ a' (inv.set hj hjn) ?_ (ready_mono hr (Ne.symm hji)) h3.1 ?_) (qOp_put hoj (hfree j oj hoj hji hju hno) (fun cs b => hsel i oi cs b hi) (fun cs b => hsel j oj cs b hoj) hy (H.2 j (ready_mono hj hji)).2)
      · intro k ok hk hki hu hno2
        refine hfree k ok hk hki ?_ hno2
        by_cases hjk : j = k
        · rw [← hjk]; exact hju
        · rwa [getD_set_ne true hjk] at hu
      · rw [Array.setIfInBounds_comm _ _ hji]
        exact h3.2
end
end Go.Proofs.YtcjoinhngdfdmaaGreatDoor
end
