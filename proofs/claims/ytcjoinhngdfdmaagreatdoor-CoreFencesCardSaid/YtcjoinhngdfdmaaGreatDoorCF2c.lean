/- What a statement of layer 13 needs further, and for the last file the statement itself: for every argument. No condition. -/
import Derived.Test.YtcjoinhngdfdmaaGreatDoorCF2b
import Derived.Below
import Derived.BigQuiet
import Derived.ChangeAlike
import Derived.ChangeArms
import Derived.ChangeKeysEq
import Derived.Deep.Cut
import Derived.Deep.CutBlock
import Derived.Deep.CutRange
import Derived.Deep.DeepCutAuto
import Derived.Deep.MidRow
import Derived.Deep.Quiet
import Derived.Deep.QuietTactic
import Derived.Deep.RegionHeld3
import Derived.Deep.RegionLaw
import Derived.Deep.RegionWith
import Derived.DeepKeys
import Derived.Defers
import Derived.IntWalk
import Derived.Laws.Bits64b
import Derived.Laws.BitsAllLaws
import Derived.Laws.Entries
import Derived.Laws.LoneSync
import Derived.Laws.NewBlocks
import Derived.Laws.Pointers
import Derived.Laws.StructEq
import Derived.Lib.Hide
import Derived.Lib.SliceRun
import Derived.Maps.OwnOps
import Derived.OpenShut
import Derived.ProofKit
import Derived.RegionCalls
import Derived.RegionTactic
import Derived.StillTail
import Derived.StillTailTactics
import Derived.Tactics
import Derived.Tactics2
import Derived.Test.YtcjoinhngdfdmaaGreatDoorChecked
import Derived.WalkKit
import Derived.WideShapes
section
namespace Go.Proofs.YtcjoinhngdfdmaaGreatDoor
open Go.RowKit
set_option linter.unusedVariables false
set_option maxHeartbeats 1000000

set_option maxRecDepth 100000
attribute [local go_sem ↓] append_appS copy_copS clear_clrS make_mkS cell_row frozen_row heap_drew heap_drewN heap_alloc heap_past heap_setCell heap_putRow loadSe storeSe loadIns storeIns loadEv storeEv loadRg storeRg sec_kd sec_li sec_wo sec_va sec_sn insc_op insc_a insc_b insc_c insc_im evc_kd evc_co evc_li evc_wo evc_va coc_id coc_ru coc_reg coc_pr coc_pc coc_qb coc_wt
attribute [local go_sem] rowCell_some rowFrozen_some rowHas_some rowIn_some rowPart_full rowPut_full rowSet_some run_loadS run_storeS run_appS run_copS run_clrS run_mkS loadW_at storeW_at fit_all fit_le one_int one_bool one_pointer one_slice allOne_list putRow_new ne_size1 ne_size2 wideSe wideIns wideEv wideRg sec_size sec_one sec_lit sec_z sec_ne sec_set0 sec_set1 sec_set2 sec_set3 seZ_kd seZ_li seZ_wo seZ_va seZ_sn insc_size insc_one insc_ne insc_lit insc_z evc_size evc_one evc_ne evc_lit evc_z evc_set0 evc_set1 evc_set2 evc_set3 evc_set4 evZ_kd evZ_co evZ_li evZ_wo evZ_va fold_evc coc_setRu coc_size coc_setPc coc_setWt coc_setReg coc_regs vs_size vs_one
attribute [local simp ↓] heap_drew heap_drewN heap_alloc heap_past heap_setCell heap_putRow
attribute [local simp] rowCell_some rowFrozen_some rowHas_some rowIn_some rowPart_full rowPut_full rowSet_some fit_all putRow_new ne_size1 ne_size2 sec_size insc_size evc_size coc_size coc_setRu coc_setPc coc_setWt coc_setReg vs_size fit_le
attribute [local go_sem ↓] heap_drewN loadMsg storeMsg msc_kd msc_li msc_di msc_ke loadFs storeFs fsc_0 fsc_1
attribute [local go_sem] wideMsg msc_size msc_one fold_msc wideFs fsc_size fsc_one
attribute [local simp] msc_size fsc_size
theorem cloneF {w0 w : World} {q eb : Nat} {A : Option Addr} {n c : Nat} {ys : List Int} (h0 : Chg [] w0 w) (hq : Old w0 q) (hE : w.heap[eb]? = some (.cells #[] 43 (0, 0))) (he : w0.heap.size ≤ eb)
    (hs : Sl w 1 A n (cat uenc ys)) (hm : ys.length = n) (h5 : n ≤ 5000) :
    ∃ (be' cap' : Nat) (A' : Option Addr) (w' : World), appR Tryz.prog 37 37 #[.slice (some ⟨eb, 0, none⟩) 0 0, .slice A n c] w = .ok (.slice A' n cap') w' ∧ Vec 1 43 uenc w' q be' A' cap' ys ∧ (be' = q ∨ w0.heap.size ≤ be') ∧ Chg [] w0 w' := by
  have hne : eb ≠ q := by have := hq.lt; omega
  have hv : Vec 1 43 uenc w q eb (some ⟨eb, 0, none⟩) 0 ([] : List Int) := .inr ⟨hne, rfl, by simp, [], by rw [hE]; rfl, by simp⟩
  obtain ⟨be', cap', A', w', h1, h2, h3, h4⟩ := Vec.acc (ty := 37) eltU h0 hv (.inr he) hq hs (c := c) hm (by simp; omega) (by simp only [maxLen]; simp; omega)
  simp only [List.length_nil, Nat.zero_add, List.nil_append] at h1 h2
  exact ⟨be', cap', A', w', h1, h2, h3, h4⟩
set_option maxHeartbeats 40000000 in
theorem cfences_in (W : World) (hT : Tabs W) {A : Option Addr} {n cap : Nat} {us : List Int} (hs : Sl W 1 A n (us.map (Value.int .u64))) (hn : us.length = n) (hu : ∀ u ∈ us, 0 ≤ u ∧ u < 18446744073709551616) (hn1 : n ≤ 1000)
    {B : Option Addr} {N cN : Nat} {xs : List Value} (hl : Sl W 15 B N xs) (hN4 : N ≤ 400) (hk : ∀ j, j < N → ∃ s, (xs.drop (j * 15)).take 15 = Fs.enc s) :
    Calls Tryz.prog 4 #[.slice A n cap, .slice B N cN] W fun e w' => e = .returned (.bool true) ∧ Chg [] W w' := by
  have HT := Lib.hid hT
  have HQ := Lib.hid (show Old W 1 from hT.1.elim fun _ h => h.elim fun _ h => old h)
  have HS := Lib.hid hs
  have HLL := Lib.hid hl
  have HKS := Lib.hid hk
  have HU := Lib.hid hu
  have HNN := Lib.hid hn
  have n400 : ¬ (400 : Int) < (N : Int) := by omega
  have n1000 : ¬ (1000 : Int) < (n : Int) := by omega
  clear hT hs hl hk hu hn
  go_enter Tryz.func4, Tryz.ntmps4
  try dsimp only [List.append]
  go_wp2_with fail
  refine (kplain _).mono ?_
  rintro e w0 ⟨rfl, c0⟩
  have C0 := Lib.hid c0
  clear c0
  go_wp2_with fail
  refine (mnew_none W w0 kc kc_ok C0.out none 0).mono ?_
  rintro e w1 ⟨sy, F0, rfl, hms, hc, _⟩
  have M0 := Lib.hid (show MS W w1 kc sy F0 kS0 from hms)
  have HC0 := Lib.hid (C0.out.trans hc)
  clear hms hc C0
  have c6 := (Chg.refl [] w1).alloc (.cells #[] 43)
  have hE : (w1.alloc (.cells #[] 43)).heap[w1.heap.size]? = some (.cells #[] 43 (0, 0)) := by simp
  obtain ⟨be1, cp1, A1, w2, e1, v1, b1, k1⟩ := cloneF (ys := us) (c := cap) c6 (HQ.out.chg HC0.out) hE (Nat.le_refl _) (by rw [cat_uenc]; exact HS.out.chg (HC0.out.trans c6) (by simp)) HNN.out (by omega)
  have hs1 : Sl w2 1 A1 n (us.map (Value.int .u64)) := by
    have := v1.sl uenc_len
    rw [cat_uenc, HNN.out] at this
    exact this
  have HS1 := Lib.hid hs1
  have K1 := Lib.hid k1
  clear c6 hE v1 b1 hs1 k1
  go_wp2_with fail
  clear e1
  refine (cnew (us := us) 0 3 HS1.out HNN.out (by omega) HU.out (by decide) (by omega) (by omega)).mono ?_
  rintro e w3 ⟨kb, pb, qb, rfl, hk, hp, hq, hc, hco⟩
  have s1 := HC0.out.size
  have s2 := K1.out.size
  have hms := Mem.keep M0.out (K1.out.trans hc)
  have HS0 := Lib.hid (show FR W w3 sy kb pb qb 0 from ⟨F0, kS0, co0 0 3 us, _, ⟨hms, hco, fun h => by have := Mem.old M0.out kb h; omega, fun h => by have := Mem.old M0.out pb h; omega, fun h => by have := Mem.old M0.out qb h; omega, by omega, by omega, by omega⟩, kI0, kN0, rfl, by show (0 : Nat) ≤ 3; omega, by show (0 : Nat) ≤ 16; omega⟩)
  clear hk hp hq hc hco hms s1 s2 HC0 M0 K1 HS1
  go_wp2_with fail
  go_loopw [9] (fun i wr => ∃ j : Nat, j ≤ N ∧ i = .int .i64 j ∧ FR W wr sy kb pb qb j) (fun i _ => N - (intOf i).toNat)
  case atStart => exact ⟨0, by omega, rfl, HS0.out⟩
  case round =>
    clear HS0
    obtain ⟨j, hj, rfl, F, S, Q, cur, hcs, hI, hNN, hb1, hb2, hb3⟩ := hrel
    have HI := Lib.hid hI
    have HN := Lib.hid hNN
    have HB := Lib.hid (And.intro hb1 (And.intro hb2 hb3))
    have HC := Lib.hid hcs
    clear hcs hI hNN hb1 hb2 hb3
    by_cases hlt : j < N
    · have HLT := Lib.hid hlt
      have HJ := Lib.hid (show j ≤ 399 by omega)
      have g1 : (j : Int) < (N : Int) := by omega
      have g0 : (0 : Int) ≤ (j : Int) := by omega
      have g4 : (N : Int) ≤ 400 := by omega
      obtain ⟨s, hsx⟩ := HKS.out j hlt
      obtain ⟨bB, oB, hA⟩ := HLL.out.addr (by omega)
      subst hA
      obtain ⟨cA, tA, fA, hA, _, hpart⟩ := HLL.out.elem (by omega) hlt hsx
      obtain ⟨hin, hpt⟩ := hpart 0 15 (by omega)
      have hAr := (Mem.chg HC.out.ms).keep hA (by simp)
      have oA := old hAr
      rw [Nat.add_zero] at hin hpt
      rw [show ((Fs.enc s).drop 0 |>.take 15).toArray = fsc s by rw [List.drop_zero, List.take_of_length_le (by rw [Fs.len]; omega)]; rfl] at hpt
      clear hlt hsx hA hpart hj
      go_upto_region 11 with fail
      have hbx : (wr.alloc (.cells (fsc s) 57)).heap[wr.heap.size]? = some (.cells (fsc s) 57 (0, 0)) := by simp
      have HCS := Lib.hid (HC.out.keep0 ((Chg.refl [] wr).alloc (.cells (fsc s) 57)))
      clear HC hAr oA hin hpt
      generalize wr.alloc (.cells (fsc s) 57) = w4 at *
      generalize wr.heap.size = ps at *
      by_cases hk0 : s.kd = 0
      · have hk := hk0
        have t0 : (s.kd == 0) = true := by simp [hk]
        clear hk
        as_aux_lemma =>
        by_cases he0 : Q.es.length = 0
        · have f1 : (((Q.es.length : Nat) : Int) == 0) = true := by simp [he0]
          by_cases hw0 : Q.wt = 0
          · have f2 : (((Q.wt : Nat) : Int) == 0) = true := by simp [hw0]
            clear he0 hw0
            have HR2 := Lib.hid (fun li wo => Roomy.of (HI.out.loadM Q.id li wo) (by have := HJ.out; omega))
            obtain ⟨cur1, hw⟩ := went_exec HI.out HN.out HCS.out.co.ok.pos
            have HW := Lib.hid hw
            clear hw
            go_wp2_with (first | (go_at_call 22; refine (cwaits HCB.out.co.ok.h8 HCB.out.co.own).mono ?_; rintro e w' ⟨rfl, rfl⟩) | (go_at_call 16; refine (ebuffer HCS.out).mono ?_; rintro e w20 ⟨b, rfl, _, c20, _⟩; have HCB := Lib.hid (HCS.out.keep0 c20); clear c20))
            refine (yexec HCB.out HI.out HN.out (by have := HJ.out; omega) (Roomy.of HI.out (by have := HJ.out; omega)) HR2.out HT.out.1).mono ?_
            rintro e w9 ⟨v1, F1, rfl, hev, hcs, _, _⟩
            have HCZ := Lib.hid hcs
            have HIZ := Lib.hid (HW.out.inv.mono (show 2 * j + 2 ≤ 2 * (j + 1) by omega))
            have HNZ := Lib.hid HW.out.nn
            have HCALM := Lib.hid (show ∀ e ∈ (execC kc S Q).ev, e.kd = 7 ∨ e.kd = 4 → true = true from fun e he hk => by have := HW.out.calm e he hk; rfl)
            have HB := Lib.hid (show (execC kc S Q).Q.rm = 3 ∧ (execC kc S Q).Q.es.length ≤ 3 ∧ (execC kc S Q).Q.wt ≤ 16 from ⟨by rw [HW.out.rm]; exact HB.out.1, by have := HW.out.es; have := HB.out; omega, by rw [HW.out.wt]; exact HB.out.2.2⟩)
            obtain ⟨A2, c2, rfl, hsl⟩ := hev.sl
            have hel := execC_len S Q
            have HSL := Lib.hid hsl
            clear hcs hev hsl HCS HCB HR2 HW
            generalize hql : (execC kc S Q).ev = ev at *
            clear hql
            go_wp2_with fail
            go_loopw [13] (fun i wr => ∃ t : Nat, t ≤ ev.length ∧ i = .int .i64 t ∧ wr = w9) (fun i _ => ev.length - (intOf i).toNat)
            case atStart => exact ⟨0, by omega, rfl, by first | rfl | trivial⟩
            case round =>
              obtain ⟨t, ht, rfl, rfl⟩ := hrel
              by_cases hlt : t < ev.length
              · obtain ⟨x, hx⟩ : ∃ x, ev[t]? = some x := ⟨_, List.getElem?_eq_getElem hlt⟩
                have y1 : (t : Int) < (ev.length : Int) := by omega
                have y0 : (0 : Int) ≤ (t : Int) := by omega
                obtain ⟨b0, o0, hA⟩ := HSL.out.addr (by omega)
                subst hA
                obtain ⟨cA, tA, fA, hA, hcell, _⟩ := HSL.out.elem (by omega) hlt (cat_part Ev.len hx)
                have c0 := hcell 0 (by omega)
                rw [Nat.add_zero] at c0
                rw [show (Ev.enc x)[0]? = some (.int .i64 x.kd) from rfl] at c0
                have hca := HCALM.out x (List.mem_of_getElem? hx)
                clear hx hcell
                by_cases h7 : x.kd = 7
                · have u7 : (x.kd == 7) = true := by simp [h7]
                  have hct := hca (.inl h7)
                  clear hca h7
                  go_wp2_with fail
                  go_roundw
                  case rel => exact ⟨t + 1, by omega, by go_num, by first | rfl | trivial⟩
                  case measure => simp [intOf]; omega
                · have u7 : (x.kd == 7) = false := by simp [h7]
                  by_cases h4 : x.kd = 4
                  · have u4 : (x.kd == 4) = true := by simp [h4]
                    have hct := hca (.inr h4)
                    clear hca h7 h4
                    go_wp2_with fail
                    go_roundw
                    case rel => exact ⟨t + 1, by omega, by go_num, by first | rfl | trivial⟩
                    case measure => simp [intOf]; omega
                  · have u4 : (x.kd == 4) = false := by simp [h4]
                    clear hca h7 h4
                    go_wp2_with fail
                    go_roundw
                    case rel => exact ⟨t + 1, by omega, by go_num, by first | rfl | trivial⟩
                    case measure => simp [intOf]; omega
              · obtain rfl : t = ev.length := by omega
                have HZ := HCZ
                have z1 : ¬ ((((execC kc S Q).Q).wt : Nat) : Int) < 0 := by omega
                have z2 : ¬ (16 : Int) < ((((execC kc S Q).Q).wt : Nat) : Int) := by have := HB.out; omega
                have z3 : ¬ (3 : Int) < ((((execC kc S Q).Q).es.length : Nat) : Int) := by have := HB.out; omega
                go_wp2_with (first | (go_at_call 22; refine (cwaits HZ.out.co.ok.h8 HZ.out.co.own).mono ?_; rintro e w' ⟨rfl, rfl⟩) | (go_at_call 16; refine (ebuffer HZ.out).mono ?_; rintro e w20 ⟨b, rfl, _, c20, _⟩; have HZ2 := Lib.hid (HZ.out.keep0 c20); clear c20))
                go_roundw
                case rel => exact ⟨j + 1, by have := HLT.out; omega, by go_num, _, _, _, _, HZ2.out, HIZ.out, HNZ.out, HB.out.1, HB.out.2.1, HB.out.2.2⟩
                case measure => have := HLT.out; simp [intOf]; omega
          · have f2 : (((Q.wt : Nat) : Int) == 0) = false := by simp [hw0]
            have HW0 := Lib.hid hw0
            clear he0 hw0
            have HR2 := Lib.hid (fun li wo => Roomy.of (HI.out.loadM Q.id li wo) (by have := HJ.out; omega))
            obtain ⟨cur1, hw⟩ := went_exec HI.out HN.out HCS.out.co.ok.pos
            have HW := Lib.hid hw
            clear hw
            go_wp2_with (first | (go_at_call 22; refine (cwaits HCB.out.co.ok.h8 HCB.out.co.own).mono ?_; rintro e w' ⟨rfl, rfl⟩) | (go_at_call 16; refine (ebuffer HCS.out).mono ?_; rintro e w20 ⟨b, rfl, _, c20, _⟩; have HCB := Lib.hid (HCS.out.keep0 c20); clear c20))
            refine (yexec HCB.out HI.out HN.out (by have := HJ.out; omega) (Roomy.of HI.out (by have := HJ.out; omega)) HR2.out HT.out.1).mono ?_
            rintro e w9 ⟨v1, F1, rfl, hev, hcs, _, _⟩
            have HCZ := Lib.hid hcs
            have HIZ := Lib.hid (HW.out.inv.mono (show 2 * j + 2 ≤ 2 * (j + 1) by omega))
            have HNZ := Lib.hid HW.out.nn
            have HCALM := Lib.hid (show ∀ e ∈ (execC kc S Q).ev, e.kd = 7 ∨ e.kd = 4 → false = true from fun e he hk => by have := HW.out.calm e he hk; exact absurd this.2 HW0.out)
            have HB := Lib.hid (show (execC kc S Q).Q.rm = 3 ∧ (execC kc S Q).Q.es.length ≤ 3 ∧ (execC kc S Q).Q.wt ≤ 16 from ⟨by rw [HW.out.rm]; exact HB.out.1, by have := HW.out.es; have := HB.out; omega, by rw [HW.out.wt]; exact HB.out.2.2⟩)
            obtain ⟨A2, c2, rfl, hsl⟩ := hev.sl
            have hel := execC_len S Q
            have HSL := Lib.hid hsl
            clear hcs hev hsl HCS HCB HR2 HW
            generalize hql : (execC kc S Q).ev = ev at *
            clear hql
            go_wp2_with fail
            go_loopw [13] (fun i wr => ∃ t : Nat, t ≤ ev.length ∧ i = .int .i64 t ∧ wr = w9) (fun i _ => ev.length - (intOf i).toNat)
            case atStart => exact ⟨0, by omega, rfl, by first | rfl | trivial⟩
            case round =>
              obtain ⟨t, ht, rfl, rfl⟩ := hrel
              by_cases hlt : t < ev.length
              · obtain ⟨x, hx⟩ : ∃ x, ev[t]? = some x := ⟨_, List.getElem?_eq_getElem hlt⟩
                have y1 : (t : Int) < (ev.length : Int) := by omega
                have y0 : (0 : Int) ≤ (t : Int) := by omega
                obtain ⟨b0, o0, hA⟩ := HSL.out.addr (by omega)
                subst hA
                obtain ⟨cA, tA, fA, hA, hcell, _⟩ := HSL.out.elem (by omega) hlt (cat_part Ev.len hx)
                have c0 := hcell 0 (by omega)
                rw [Nat.add_zero] at c0
                rw [show (Ev.enc x)[0]? = some (.int .i64 x.kd) from rfl] at c0
                have hca := HCALM.out x (List.mem_of_getElem? hx)
                clear hx hcell
                by_cases h7 : x.kd = 7
                · have u7 : (x.kd == 7) = true := by simp [h7]
                  have hct := hca (.inl h7)
                  clear hca h7
                  cases hct
                · have u7 : (x.kd == 7) = false := by simp [h7]
                  by_cases h4 : x.kd = 4
                  · have u4 : (x.kd == 4) = true := by simp [h4]
                    have hct := hca (.inr h4)
                    clear hca h7 h4
                    cases hct
                  · have u4 : (x.kd == 4) = false := by simp [h4]
                    clear hca h7 h4
                    go_wp2_with fail
                    go_roundw
                    case rel => exact ⟨t + 1, by omega, by go_num, by first | rfl | trivial⟩
                    case measure => simp [intOf]; omega
              · obtain rfl : t = ev.length := by omega
                have HZ := HCZ
                have z1 : ¬ ((((execC kc S Q).Q).wt : Nat) : Int) < 0 := by omega
                have z2 : ¬ (16 : Int) < ((((execC kc S Q).Q).wt : Nat) : Int) := by have := HB.out; omega
                have z3 : ¬ (3 : Int) < ((((execC kc S Q).Q).es.length : Nat) : Int) := by have := HB.out; omega
                go_wp2_with (first | (go_at_call 22; refine (cwaits HZ.out.co.ok.h8 HZ.out.co.own).mono ?_; rintro e w' ⟨rfl, rfl⟩) | (go_at_call 16; refine (ebuffer HZ.out).mono ?_; rintro e w20 ⟨b, rfl, _, c20, _⟩; have HZ2 := Lib.hid (HZ.out.keep0 c20); clear c20))
                go_roundw
                case rel => exact ⟨j + 1, by have := HLT.out; omega, by go_num, _, _, _, _, HZ2.out, HIZ.out, HNZ.out, HB.out.1, HB.out.2.1, HB.out.2.2⟩
                case measure => have := HLT.out; simp [intOf]; omega
        · have f1 : (((Q.es.length : Nat) : Int) == 0) = false := by rw [beq_eq_false_iff_ne]; omega
          have HE0 := Lib.hid he0
          clear he0
          have HR2 := Lib.hid (fun li wo => Roomy.of (HI.out.loadM Q.id li wo) (by have := HJ.out; omega))
          obtain ⟨cur1, hw⟩ := went_exec HI.out HN.out HCS.out.co.ok.pos
          have HW := Lib.hid hw
          clear hw
          go_wp2_with (first | (go_at_call 22; refine (cwaits HCB.out.co.ok.h8 HCB.out.co.own).mono ?_; rintro e w' ⟨rfl, rfl⟩) | (go_at_call 16; refine (ebuffer HCS.out).mono ?_; rintro e w20 ⟨b, rfl, _, c20, _⟩; have HCB := Lib.hid (HCS.out.keep0 c20); clear c20))
          refine (yexec HCB.out HI.out HN.out (by have := HJ.out; omega) (Roomy.of HI.out (by have := HJ.out; omega)) HR2.out HT.out.1).mono ?_
          rintro e w9 ⟨v1, F1, rfl, hev, hcs, _, _⟩
          have HCZ := Lib.hid hcs
          have HIZ := Lib.hid (HW.out.inv.mono (show 2 * j + 2 ≤ 2 * (j + 1) by omega))
          have HNZ := Lib.hid HW.out.nn
          have HCALM := Lib.hid (show ∀ e ∈ (execC kc S Q).ev, e.kd = 7 ∨ e.kd = 4 → false = true from fun e he hk => by have := HW.out.calm e he hk; exact absurd (by rw [this.1]; rfl) HE0.out)
          have HB := Lib.hid (show (execC kc S Q).Q.rm = 3 ∧ (execC kc S Q).Q.es.length ≤ 3 ∧ (execC kc S Q).Q.wt ≤ 16 from ⟨by rw [HW.out.rm]; exact HB.out.1, by have := HW.out.es; have := HB.out; omega, by rw [HW.out.wt]; exact HB.out.2.2⟩)
          obtain ⟨A2, c2, rfl, hsl⟩ := hev.sl
          have hel := execC_len S Q
          have HSL := Lib.hid hsl
          clear hcs hev hsl HCS HCB HR2 HW
          generalize hql : (execC kc S Q).ev = ev at *
          clear hql
          go_wp2_with fail
          go_loopw [13] (fun i wr => ∃ t : Nat, t ≤ ev.length ∧ i = .int .i64 t ∧ wr = w9) (fun i _ => ev.length - (intOf i).toNat)
          case atStart => exact ⟨0, by omega, rfl, by first | rfl | trivial⟩
          case round =>
            obtain ⟨t, ht, rfl, rfl⟩ := hrel
            by_cases hlt : t < ev.length
            · obtain ⟨x, hx⟩ : ∃ x, ev[t]? = some x := ⟨_, List.getElem?_eq_getElem hlt⟩
              have y1 : (t : Int) < (ev.length : Int) := by omega
              have y0 : (0 : Int) ≤ (t : Int) := by omega
              obtain ⟨b0, o0, hA⟩ := HSL.out.addr (by omega)
              subst hA
              obtain ⟨cA, tA, fA, hA, hcell, _⟩ := HSL.out.elem (by omega) hlt (cat_part Ev.len hx)
              have c0 := hcell 0 (by omega)
              rw [Nat.add_zero] at c0
              rw [show (Ev.enc x)[0]? = some (.int .i64 x.kd) from rfl] at c0
              have hca := HCALM.out x (List.mem_of_getElem? hx)
              clear hx hcell
              by_cases h7 : x.kd = 7
              · have u7 : (x.kd == 7) = true := by simp [h7]
                have hct := hca (.inl h7)
                clear hca h7
                cases hct
              · have u7 : (x.kd == 7) = false := by simp [h7]
                by_cases h4 : x.kd = 4
                · have u4 : (x.kd == 4) = true := by simp [h4]
                  have hct := hca (.inr h4)
                  clear hca h7 h4
                  cases hct
                · have u4 : (x.kd == 4) = false := by simp [h4]
                  clear hca h7 h4
                  go_wp2_with fail
                  go_roundw
                  case rel => exact ⟨t + 1, by omega, by go_num, by first | rfl | trivial⟩
                  case measure => simp [intOf]; omega
            · obtain rfl : t = ev.length := by omega
              have HZ := HCZ
              have z1 : ¬ ((((execC kc S Q).Q).wt : Nat) : Int) < 0 := by omega
              have z2 : ¬ (16 : Int) < ((((execC kc S Q).Q).wt : Nat) : Int) := by have := HB.out; omega
              have z3 : ¬ (3 : Int) < ((((execC kc S Q).Q).es.length : Nat) : Int) := by have := HB.out; omega
              go_wp2_with (first | (go_at_call 22; refine (cwaits HZ.out.co.ok.h8 HZ.out.co.own).mono ?_; rintro e w' ⟨rfl, rfl⟩) | (go_at_call 16; refine (ebuffer HZ.out).mono ?_; rintro e w20 ⟨b, rfl, _, c20, _⟩; have HZ2 := Lib.hid (HZ.out.keep0 c20); clear c20))
              go_roundw
              case rel => exact ⟨j + 1, by have := HLT.out; omega, by go_num, _, _, _, _, HZ2.out, HIZ.out, HNZ.out, HB.out.1, HB.out.2.1, HB.out.2.2⟩
              case measure => have := HLT.out; simp [intOf]; omega
      by_cases hk1 : s.kd = 1
      · have hk := hk1
        have t0 : (s.kd == 0) = false := by simp; omega
        have t1 : (s.kd == 1) = true := by simp [hk]
        clear hk
        as_aux_lemma =>
        obtain ⟨cur1, hl⟩ := left_drain HI.out HN.out HCS.out.co.ok.pos
        have HL := Lib.hid hl
        clear hl
        go_wp2_with fail
        refine (edrain HCS.out HI.out (by have := HJ.out; omega) (Roomy.of HI.out (by have := HJ.out; omega)) HT.out.1).mono ?_
        rintro e w9 ⟨v1, F1, rfl, _, hcs, _, _⟩
        have HCZ := Lib.hid hcs
        have HIZ := Lib.hid (HL.out.inv.mono (show 2 * j + 1 ≤ 2 * (j + 1) by omega))
        have HNZ := Lib.hid HL.out.nn
        have HB := Lib.hid (show (drainC kc S Q).Q.rm = 3 ∧ (drainC kc S Q).Q.es.length ≤ 3 ∧ (drainC kc S Q).Q.wt ≤ 16 from ⟨by rw [HL.out.rm]; exact HB.out.1, by have := HL.out.es; have := HB.out; omega, by have := HL.out.wt; have := HB.out; omega⟩)
        clear hcs HCS
        have HZ := HCZ
        have z1 : ¬ ((((drainC kc S Q).Q).wt : Nat) : Int) < 0 := by omega
        have z2 : ¬ (16 : Int) < ((((drainC kc S Q).Q).wt : Nat) : Int) := by have := HB.out; omega
        have z3 : ¬ (3 : Int) < ((((drainC kc S Q).Q).es.length : Nat) : Int) := by have := HB.out; omega
        go_wp2_with (first | (go_at_call 22; refine (cwaits HZ.out.co.ok.h8 HZ.out.co.own).mono ?_; rintro e w' ⟨rfl, rfl⟩) | (go_at_call 16; refine (ebuffer HZ.out).mono ?_; rintro e w20 ⟨b, rfl, _, c20, _⟩; have HZ2 := Lib.hid (HZ.out.keep0 c20); clear c20))
        go_roundw
        case rel => exact ⟨j + 1, by have := HLT.out; omega, by go_num, _, _, _, _, HZ2.out, HIZ.out, HNZ.out, HB.out.1, HB.out.2.1, HB.out.2.2⟩
        case measure => have := HLT.out; simp [intOf]; omega
      by_cases hk2 : s.kd = 2
      · have hk := hk2
        have t0 : (s.kd == 0) = false := by simp; omega
        have t1 : (s.kd == 1) = false := by simp; omega
        have t2 : (s.kd == 2) = true := by simp [hk]
        clear hk
        as_aux_lemma =>
        go_wp2_with fail
        refine (uup HCS.out.ms HI.out (by have := HJ.out; omega) (Roomy.of HI.out (by have := HJ.out; omega)) HT.out.1 0).mono ?_
        rintro e w9 ⟨rfl, m9⟩
        obtain ⟨F9, hcs, _, _⟩ := HCS.out.step m9
        have HCZ := Lib.hid hcs
        clear hcs m9 HCS
        have HIZ := Lib.hid (Inv.mono (HI.out.upM 0).1 (show 2 * j + 1 ≤ 2 * (j + 1) by omega))
        have HNZ := HN
        have HZ := HCZ
        have z1 : ¬ (((Q).wt : Nat) : Int) < 0 := by omega
        have z2 : ¬ (16 : Int) < (((Q).wt : Nat) : Int) := by have := HB.out; omega
        have z3 : ¬ (3 : Int) < (((Q).es.length : Nat) : Int) := by have := HB.out; omega
        go_wp2_with (first | (go_at_call 22; refine (cwaits HZ.out.co.ok.h8 HZ.out.co.own).mono ?_; rintro e w' ⟨rfl, rfl⟩) | (go_at_call 16; refine (ebuffer HZ.out).mono ?_; rintro e w20 ⟨b, rfl, _, c20, _⟩; have HZ2 := Lib.hid (HZ.out.keep0 c20); clear c20))
        go_roundw
        case rel => exact ⟨j + 1, by have := HLT.out; omega, by go_num, _, _, _, _, HZ2.out, HIZ.out, HNZ.out, HB.out.1, HB.out.2.1, HB.out.2.2⟩
        case measure => have := HLT.out; simp [intOf]; omega
      by_cases hk3 : s.kd = 3
      · have hk := hk3
        have t0 : (s.kd == 0) = false := by simp; omega
        have t1 : (s.kd == 1) = false := by simp; omega
        have t2 : (s.kd == 2) = false := by simp; omega
        have t3 : (s.kd == 3) = true := by simp [hk]
        clear hk
        as_aux_lemma =>
        go_wp2_with fail
        refine (uanswer HCS.out.ms HI.out (by have := HJ.out; omega) (Roomy.of HI.out (by have := HJ.out; omega)) HT.out.1 0).mono ?_
        rintro e w9 ⟨rfl, m9⟩
        obtain ⟨F9, hcs, _, _⟩ := HCS.out.step m9
        have HCZ := Lib.hid hcs
        clear hcs m9 HCS
        have HIZ := Lib.hid (Inv.mono (HI.out.answerM 0).1 (show 2 * j + 1 ≤ 2 * (j + 1) by omega))
        have HNZ := HN
        have HZ := HCZ
        have z1 : ¬ (((Q).wt : Nat) : Int) < 0 := by omega
        have z2 : ¬ (16 : Int) < (((Q).wt : Nat) : Int) := by have := HB.out; omega
        have z3 : ¬ (3 : Int) < (((Q).es.length : Nat) : Int) := by have := HB.out; omega
        go_wp2_with (first | (go_at_call 22; refine (cwaits HZ.out.co.ok.h8 HZ.out.co.own).mono ?_; rintro e w' ⟨rfl, rfl⟩) | (go_at_call 16; refine (ebuffer HZ.out).mono ?_; rintro e w20 ⟨b, rfl, _, c20, _⟩; have HZ2 := Lib.hid (HZ.out.keep0 c20); clear c20))
        go_roundw
        case rel => exact ⟨j + 1, by have := HLT.out; omega, by go_num, _, _, _, _, HZ2.out, HIZ.out, HNZ.out, HB.out.1, HB.out.2.1, HB.out.2.2⟩
        case measure => have := HLT.out; simp [intOf]; omega
      by_cases hk4 : s.kd = 4
      · have hk := hk4
        have t0 : (s.kd == 0) = false := by simp; omega
        have t1 : (s.kd == 1) = false := by simp; omega
        have t2 : (s.kd == 2) = false := by simp; omega
        have t3 : (s.kd == 3) = false := by simp; omega
        have t4 : (s.kd == 4) = true := by simp [hk]
        clear hk
        as_aux_lemma =>
        go_wp2_with fail
        refine (uhear HCS.out.ms HI.out (by have := HJ.out; omega) (Roomy.of HI.out (by have := HJ.out; omega)) HT.out 0).mono ?_
        rintro e w9 ⟨rfl, m9⟩
        obtain ⟨F9, hcs, _, _⟩ := HCS.out.step m9
        have HC1 := Lib.hid hcs
        clear hcs m9 HCS
        generalize (hearM kc S 0).2.m = mm
        go_upto_region 28 with fail
        have HC2 := Lib.hid (HC1.out.keep0 ((Chg.refl [] w9).alloc (.cells (msc mm) 50)))
        have hbx : (w9.alloc (.cells (msc mm) 50)).heap[w9.heap.size]? = some (.cells (msc mm) 50 (0, 0)) := by simp
        clear HC1
        generalize w9.alloc (.cells (msc mm) 50) = w10 at *
        generalize w9.heap.size = pm at *
        go_wp2_with fail
        refine (dhear HC2.out.co HC2.out.old mm).mono ?_
        intro e w12 hd
        obtain ⟨v3, F6, rfl, _, hcs, _, _⟩ := HC2.out.ofCo hd
        have HCZ := Lib.hid hcs
        have HIZ := Lib.hid (Inv.mono (HI.out.hearM 0).1 (show 2 * j + 1 ≤ 2 * (j + 1) by omega))
        have HNZ := HN
        have HB := Lib.hid (show (hearC Q mm).1.rm = 3 ∧ (hearC Q mm).1.es.length ≤ 3 ∧ (hearC Q mm).1.wt ≤ 16 by
          have := HB.out
          unfold hearC
          split
          · exact this
          · exact ⟨this.1, this.2.1, by show Q.wt - 1 ≤ 16; omega⟩)
        clear hcs HC2 hd hbx
        have HZ := HCZ
        have z1 : ¬ ((((hearC Q mm).1).wt : Nat) : Int) < 0 := by omega
        have z2 : ¬ (16 : Int) < ((((hearC Q mm).1).wt : Nat) : Int) := by have := HB.out; omega
        have z3 : ¬ (3 : Int) < ((((hearC Q mm).1).es.length : Nat) : Int) := by have := HB.out; omega
        go_wp2_with (first | (go_at_call 22; refine (cwaits HZ.out.co.ok.h8 HZ.out.co.own).mono ?_; rintro e w' ⟨rfl, rfl⟩) | (go_at_call 16; refine (ebuffer HZ.out).mono ?_; rintro e w20 ⟨b, rfl, _, c20, _⟩; have HZ2 := Lib.hid (HZ.out.keep0 c20); clear c20))
        go_roundw
        case rel => exact ⟨j + 1, by have := HLT.out; omega, by go_num, _, _, _, _, HZ2.out, HIZ.out, HNZ.out, HB.out.1, HB.out.2.1, HB.out.2.2⟩
        case measure => have := HLT.out; simp [intOf]; omega
      by_cases hk5 : s.kd = 5
      · have hk := hk5
        have t0 : (s.kd == 0) = false := by simp; omega
        have t1 : (s.kd == 1) = false := by simp; omega
        have t2 : (s.kd == 2) = false := by simp; omega
        have t3 : (s.kd == 3) = false := by simp; omega
        have t4 : (s.kd == 4) = false := by simp; omega
        have t5 : (s.kd == 5) = true := by simp [hk]
        clear hk
        as_aux_lemma =>
        go_wp2_with fail
        refine (upush HCS.out.ms HI.out (by have := HJ.out; omega) (Roomy.of HI.out (by have := HJ.out; omega)) HT.out.1 s.li).mono ?_
        rintro e w9 ⟨rfl, m9⟩
        obtain ⟨F9, hcs, _, _⟩ := HCS.out.step m9
        have HCZ := Lib.hid hcs
        clear hcs m9 HCS
        have HIZ := Lib.hid (Inv.mono (HI.out.pushM s.li) (show 2 * j + 1 ≤ 2 * (j + 1) by omega))
        have HNZ := HN
        have HZ := HCZ
        have z1 : ¬ (((Q).wt : Nat) : Int) < 0 := by omega
        have z2 : ¬ (16 : Int) < (((Q).wt : Nat) : Int) := by have := HB.out; omega
        have z3 : ¬ (3 : Int) < (((Q).es.length : Nat) : Int) := by have := HB.out; omega
        go_wp2_with (first | (go_at_call 22; refine (cwaits HZ.out.co.ok.h8 HZ.out.co.own).mono ?_; rintro e w' ⟨rfl, rfl⟩) | (go_at_call 16; refine (ebuffer HZ.out).mono ?_; rintro e w20 ⟨b, rfl, _, c20, _⟩; have HZ2 := Lib.hid (HZ.out.keep0 c20); clear c20))
        go_roundw
        case rel => exact ⟨j + 1, by have := HLT.out; omega, by go_num, _, _, _, _, HZ2.out, HIZ.out, HNZ.out, HB.out.1, HB.out.2.1, HB.out.2.2⟩
        case measure => have := HLT.out; simp [intOf]; omega
      have t0 : (s.kd == 0) = false := by simp; omega
      have t1 : (s.kd == 1) = false := by simp; omega
      have t2 : (s.kd == 2) = false := by simp; omega
      have t3 : (s.kd == 3) = false := by simp; omega
      have t4 : (s.kd == 4) = false := by simp; omega
      have t5 : (s.kd == 5) = false := by simp; omega
      as_aux_lemma =>
      have HCZ := HCS
      have HIZ := Lib.hid (Inv.mono HI.out (show 2 * j ≤ 2 * (j + 1) by omega))
      have HNZ := HN
      have HZ := HCZ
      have z1 : ¬ (((Q).wt : Nat) : Int) < 0 := by omega
      have z2 : ¬ (16 : Int) < (((Q).wt : Nat) : Int) := by have := HB.out; omega
      have z3 : ¬ (3 : Int) < (((Q).es.length : Nat) : Int) := by have := HB.out; omega
      go_wp2_with (first | (go_at_call 22; refine (cwaits HZ.out.co.ok.h8 HZ.out.co.own).mono ?_; rintro e w' ⟨rfl, rfl⟩) | (go_at_call 16; refine (ebuffer HZ.out).mono ?_; rintro e w20 ⟨b, rfl, _, c20, _⟩; have HZ2 := Lib.hid (HZ.out.keep0 c20); clear c20))
      go_roundw
      case rel => exact ⟨j + 1, by have := HLT.out; omega, by go_num, _, _, _, _, HZ2.out, HIZ.out, HNZ.out, HB.out.1, HB.out.2.1, HB.out.2.2⟩
      case measure => have := HLT.out; simp [intOf]; omega
    · obtain rfl : j = N := by omega
      have HCE := Lib.hid (Mem.chg HC.out.ms)
      go_wp2_with (go_at_call 12; refine (cwakes _ (HT.out.1.keep HCE.out (by simp))).mono ?_; rintro e w5 ⟨rfl, c6⟩; have HC5 := Lib.hid (HCE.out.trans c6); clear c6)
      go_ret
      exact ⟨rfl, HC5.out⟩
end Go.Proofs.YtcjoinhngdfdmaaGreatDoor
end
section
namespace Go.Proofs.YtcjoinhngdfdmaaGreatDoor
open Go.RowKit
set_option linter.unusedVariables false
set_option maxHeartbeats 1000000

set_option maxRecDepth 100000
attribute [local go_sem ↓] append_appS copy_copS clear_clrS make_mkS cell_row frozen_row heap_drew heap_drewN heap_alloc heap_past heap_setCell heap_putRow loadSe storeSe loadIns storeIns loadEv storeEv loadRg storeRg sec_kd sec_li sec_wo sec_va sec_sn insc_op insc_a insc_b insc_c insc_im evc_kd evc_co evc_li evc_wo evc_va coc_id coc_ru coc_reg coc_pr coc_pc coc_qb coc_wt
attribute [local go_sem] rowCell_some rowFrozen_some rowHas_some rowIn_some rowPart_full rowPut_full rowSet_some run_loadS run_storeS run_appS run_copS run_clrS run_mkS loadW_at storeW_at fit_all fit_le one_int one_bool one_pointer one_slice allOne_list putRow_new ne_size1 ne_size2 wideSe wideIns wideEv wideRg sec_size sec_one sec_lit sec_z sec_ne sec_set0 sec_set1 sec_set2 sec_set3 seZ_kd seZ_li seZ_wo seZ_va seZ_sn insc_size insc_one insc_ne insc_lit insc_z evc_size evc_one evc_ne evc_lit evc_z evc_set0 evc_set1 evc_set2 evc_set3 evc_set4 evZ_kd evZ_co evZ_li evZ_wo evZ_va fold_evc coc_setRu coc_size coc_setPc coc_setWt coc_setReg coc_regs vs_size vs_one
attribute [local simp ↓] heap_drew heap_drewN heap_alloc heap_past heap_setCell heap_putRow
attribute [local simp] rowCell_some rowFrozen_some rowHas_some rowIn_some rowPart_full rowPut_full rowSet_some fit_all putRow_new ne_size1 ne_size2 sec_size insc_size evc_size coc_size coc_setRu coc_setPc coc_setWt coc_setReg vs_size fit_le
attribute [local go_sem ↓] heap_drewN
/-! ### A program that is too long -/
theorem cnew_many {w : World} {A : Option Addr} {n cap : Nat} (id : Int) (room : Nat) (h5 : 4096 < n) (hi : 0 ≤ id ∧ id < 8) (h1 : 1 ≤ room) (h2 : room ≤ 16) :
    Calls Tryz.prog 13 #[.int .i64 id, .int .i64 room, .slice A n cap] w fun e w' => ∃ x, e = .returned (.tuple #[.pointer none, .int .i64 x]) ∧ x ≠ 0 ∧ Chg [] w w' := by
  have HB := Lib.hid (fun w => snew_buf room w h1 h2)
  have t1 : ¬ id < 0 := by omega
  have t2 : ¬ 8 ≤ id := by omega
  have t3 : (4096 : Int) < (n : Int) := by omega
  clear hi h5
  go_enter Tryz.func13, Tryz.ntmps13
  try dsimp only [List.append]
  go_wp2_with (go_at_call 37; refine (HB.out _).mono ?_; rintro e w2 ⟨q, rfl, hq⟩)
  obtain ⟨_, hc, _⟩ := hq
  have HC := Lib.hid hc
  clear hc
  go_ret2
  exact ⟨_, rfl, by decide, HC.out⟩
end Go.Proofs.YtcjoinhngdfdmaaGreatDoor
end
section
namespace Go.Proofs.YtcjoinhngdfdmaaGreatDoor
open Go.RowKit
set_option linter.unusedVariables false
set_option maxHeartbeats 1000000

set_option maxRecDepth 100000
attribute [local go_sem ↓] append_appS copy_copS clear_clrS make_mkS cell_row frozen_row heap_drew heap_drewN heap_alloc heap_past heap_setCell heap_putRow loadSe storeSe loadIns storeIns loadEv storeEv loadRg storeRg sec_kd sec_li sec_wo sec_va sec_sn insc_op insc_a insc_b insc_c insc_im evc_kd evc_co evc_li evc_wo evc_va coc_id coc_ru coc_reg coc_pr coc_pc coc_qb coc_wt
attribute [local go_sem] rowCell_some rowFrozen_some rowHas_some rowIn_some rowPart_full rowPut_full rowSet_some run_loadS run_storeS run_appS run_copS run_clrS run_mkS loadW_at storeW_at fit_all fit_le one_int one_bool one_pointer one_slice allOne_list putRow_new ne_size1 ne_size2 wideSe wideIns wideEv wideRg sec_size sec_one sec_lit sec_z sec_ne sec_set0 sec_set1 sec_set2 sec_set3 seZ_kd seZ_li seZ_wo seZ_va seZ_sn insc_size insc_one insc_ne insc_lit insc_z evc_size evc_one evc_ne evc_lit evc_z evc_set0 evc_set1 evc_set2 evc_set3 evc_set4 evZ_kd evZ_co evZ_li evZ_wo evZ_va fold_evc coc_setRu coc_size coc_setPc coc_setWt coc_setReg coc_regs vs_size vs_one
attribute [local simp ↓] heap_drew heap_drewN heap_alloc heap_past heap_setCell heap_putRow
attribute [local simp] rowCell_some rowFrozen_some rowHas_some rowIn_some rowPart_full rowPut_full rowSet_some fit_all putRow_new ne_size1 ne_size2 sec_size insc_size evc_size coc_size coc_setRu coc_setPc coc_setWt coc_setReg vs_size fit_le
attribute [local go_sem ↓] heap_drewN
/-! ### CoreFences, of what is too long -/
theorem cloneB {w0 w : World} {q eb : Nat} {A : Option Addr} {n c : Nat} {ys : List Int} (h0 : Chg [] w0 w) (hq : Old w0 q) (hE : w.heap[eb]? = some (.cells #[] 43 (0, 0))) (he : w0.heap.size ≤ eb)
    (hs : Sl w 1 A n (cat uenc ys)) (hm : ys.length = n) (hB : n * 8 ≤ 140737488355328) :
    ∃ (be' cap' : Nat) (A' : Option Addr) (w' : World), appR Tryz.prog 37 37 #[.slice (some ⟨eb, 0, none⟩) 0 0, .slice A n c] w = .ok (.slice A' n cap') w' ∧ Vec 1 43 uenc w' q be' A' cap' ys ∧ Chg [] w0 w' := by
  have hne : eb ≠ q := by have := hq.lt; omega
  have hv : Vec 1 43 uenc w q eb (some ⟨eb, 0, none⟩) 0 ([] : List Int) := .inr ⟨hne, rfl, by simp, [], by rw [hE]; rfl, by simp⟩
  obtain ⟨be', cap', A', w', h1, h2, h3, h4⟩ := Vec.acc (ty := 37) eltU h0 hv (.inr he) hq hs (c := c) hm (by simpa using hB) (by simp only [maxLen]; simp; omega)
  simp only [List.length_nil, Nat.zero_add, List.nil_append] at h1 h2
  exact ⟨be', cap', A', w', h1, h2, h4⟩
set_option maxHeartbeats 8000000 in
theorem cfences_big (W : World) (hT : Tabs W) {A : Option Addr} {n cap : Nat} {us : List Int} (hs : Sl W 1 A n (us.map (Value.int .u64))) (hn : us.length = n) (hu : ∀ u ∈ us, 0 ≤ u ∧ u < 18446744073709551616) (hB8 : n * 8 ≤ 140737488355328)
    (B : Option Addr) (N cN : Nat) (hbig : 1000 < n ∨ 400 < N) :
    Calls Tryz.prog 4 #[.slice A n cap, .slice B N cN] W fun e w' => e = .returned (.bool true) ∧ Chg [] W w' := by
  have HT := Lib.hid hT
  have HQ := Lib.hid (show Old W 1 from hT.1.elim fun _ h => h.elim fun _ h => old h)
  have HS := Lib.hid hs
  have HU := Lib.hid hu
  have HNN := Lib.hid hn
  have HB8 := Lib.hid hB8
  have HBIG := Lib.hid hbig
  clear hT hs hu hn hbig hB8
  go_enter Tryz.func4, Tryz.ntmps4
  try dsimp only [List.append]
  go_wp2_with fail
  refine (kplain _).mono ?_
  rintro e w0 ⟨rfl, c0⟩
  have C0 := Lib.hid c0
  clear c0
  go_wp2_with fail
  refine (mnew_none W w0 kc kc_ok C0.out none 0).mono ?_
  rintro e w1 ⟨sy, F0, rfl, hms, hc, _⟩
  have HC0 := Lib.hid (C0.out.trans hc)
  clear hms hc C0
  have c6 := (Chg.refl [] w1).alloc (.cells #[] 43)
  have hE : (w1.alloc (.cells #[] 43)).heap[w1.heap.size]? = some (.cells #[] 43 (0, 0)) := by simp
  obtain ⟨be1, cp1, A1, w2, e1, v1, k1⟩ := cloneB (ys := us) (c := cap) c6 (HQ.out.chg HC0.out) hE (Nat.le_refl _) (by rw [cat_uenc]; exact HS.out.chg (HC0.out.trans c6) (by simp)) HNN.out HB8.out
  have hs1 : Sl w2 1 A1 n (us.map (Value.int .u64)) := by
    have := v1.sl uenc_len
    rw [cat_uenc, HNN.out] at this
    exact this
  have HS1 := Lib.hid hs1
  have HC2 := Lib.hid (HC0.out.trans k1)
  clear c6 hE v1 hs1 k1
  go_wp2_with fail
  clear e1
  have key : Calls Tryz.prog 13 #[.int .i64 0, .int .i64 3, .slice A1 n cp1] w2 fun e w' => ∃ p x, e = .returned (.tuple #[.pointer p, .int .i64 x]) ∧ Chg [] w2 w' := by
    by_cases h4 : n ≤ 4096
    · refine (cnew (us := us) 0 3 HS1.out HNN.out h4 HU.out (by decide) (by omega) (by omega)).mono ?_
      rintro e w3 ⟨kb, pb, qb, rfl, _, _, _, hc, _⟩
      exact ⟨_, _, rfl, hc⟩
    · refine (cnew_many 0 3 (by omega) (by decide) (by omega) (by omega)).mono ?_
      rintro e w3 ⟨x, rfl, _, hc⟩
      exact ⟨_, _, rfl, hc⟩
  refine key.mono ?_
  rintro e w3 ⟨p, x, rfl, hc⟩
  have HC3 := Lib.hid (HC2.out.trans hc)
  clear hc key HS1 HC2
  by_cases h4 : 400 < N
  · have t1 : (400 : Int) < (N : Int) := by omega
    go_wp2_with (go_at_call 12; refine (cwakes _ (HT.out.1.keep HC3.out (by simp))).mono ?_; rintro e w5 ⟨rfl, c6⟩; have HC5 := Lib.hid (HC3.out.trans c6); clear c6)
    go_ret
    exact ⟨rfl, HC5.out⟩
  · have t1 : ¬ (400 : Int) < (N : Int) := by omega
    have t2 : (1000 : Int) < (n : Int) := by have := HBIG.out; omega
    go_wp2_with (go_at_call 12; refine (cwakes _ (HT.out.1.keep HC3.out (by simp))).mono ?_; rintro e w5 ⟨rfl, c6⟩; have HC5 := Lib.hid (HC3.out.trans c6); clear c6)
    go_ret
    exact ⟨rfl, HC5.out⟩
end Go.Proofs.YtcjoinhngdfdmaaGreatDoor
end
