/- What a statement of layer 13 needs further, and for the last file the statement itself: for every argument. No condition. -/
import Derived.Test.YtcjoinhngdfdmaaGreatDoorCPa
import Derived.Below
import Derived.BigQuiet
import Derived.ChangeAlike
import Derived.ChangeArms
import Derived.ChangeKeysEq
import Derived.Deep.Cut
import Derived.Deep.CutBlock
import Derived.Deep.CutRange
import Derived.Deep.DeepCutAuto
import Derived.Deep.MidRow
import Derived.Deep.Quiet
import Derived.Deep.QuietTactic
import Derived.Deep.RegionHeld3
import Derived.Deep.RegionLaw
import Derived.Deep.RegionWith
import Derived.DeepKeys
import Derived.Defers
import Derived.IntWalk
import Derived.Laws.Bits64b
import Derived.Laws.BitsAllLaws
import Derived.Laws.Entries
import Derived.Laws.LoneSync
import Derived.Laws.NewBlocks
import Derived.Laws.Pointers
import Derived.Laws.StructEq
import Derived.Lib.Hide
import Derived.Lib.SliceRun
import Derived.Maps.OwnOps
import Derived.OpenShut
import Derived.OwnWalk
import Derived.ProofKit
import Derived.RegionCalls
import Derived.RegionTactic
import Derived.StillTail
import Derived.StillTailTactics
import Derived.Tactics
import Derived.Tactics2
import Derived.Test.YtcjoinhngdfdmaaGreatDoorChecked
import Derived.WalkKit
import Derived.WideShapes
section
namespace Go.Proofs.YtcjoinhngdfdmaaGreatDoor
open Go.RowKit
set_option linter.unusedVariables false
set_option maxHeartbeats 1000000

set_option maxRecDepth 100000
attribute [local go_sem ↓] append_appS copy_copS clear_clrS make_mkS cell_row frozen_row heap_drew heap_drewN heap_alloc heap_past heap_setCell heap_putRow loadSe storeSe loadIns storeIns loadEv storeEv loadRg storeRg sec_kd sec_li sec_wo sec_va sec_sn insc_op insc_a insc_b insc_c insc_im evc_kd evc_co evc_li evc_wo evc_va coc_id coc_ru coc_reg coc_pr coc_pc coc_qb coc_wt
attribute [local go_sem] rowCell_some rowFrozen_some rowHas_some rowIn_some rowPart_full rowPut_full rowSet_some run_loadS run_storeS run_appS run_copS run_clrS run_mkS loadW_at storeW_at fit_all fit_le one_int one_bool one_pointer one_slice allOne_list putRow_new ne_size1 ne_size2 wideSe wideIns wideEv wideRg sec_size sec_one sec_lit sec_z sec_ne sec_set0 sec_set1 sec_set2 sec_set3 seZ_kd seZ_li seZ_wo seZ_va seZ_sn insc_size insc_one insc_ne insc_lit insc_z evc_size evc_one evc_ne evc_lit evc_z evc_set0 evc_set1 evc_set2 evc_set3 evc_set4 evZ_kd evZ_co evZ_li evZ_wo evZ_va fold_evc coc_setRu coc_size coc_setPc coc_setWt coc_setReg coc_regs vs_size vs_one
attribute [local simp ↓] heap_drew heap_drewN heap_alloc heap_past heap_setCell heap_putRow
attribute [local simp] rowCell_some rowFrozen_some rowHas_some rowIn_some rowPart_full rowPut_full rowSet_some fit_all putRow_new ne_size1 ne_size2 sec_size insc_size evc_size coc_size coc_setRu coc_setPc coc_setWt coc_setReg vs_size fit_le
attribute [local go_sem ↓] loadMsg storeMsg msc_kd msc_li msc_di msc_ke
attribute [local go_sem] wideMsg msc_size msc_one fold_msc
attribute [local simp] msc_size
attribute [local go_sem ↓] heap_drewN
/-! ### 'alone', walked -/

set_option maxHeartbeats 8000000 in
theorem alone_all (W : World) (hT : Tabs W) {A : Option Addr} {n cap : Nat} {us : List Int} (hs : Sl W 1 A n (us.map (Value.int .u64))) (hn : us.length = n) (h5 : n ≤ 4096) (hu : ∀ u ∈ us, 0 ≤ u ∧ u < 18446744073709551616) (most r : Nat) (hm : most ≤ 1000) (hr : r < most) (hr45 : r ≤ 45)
    (hrun : ∀ i, i < r → (runA us i).Q.ru = true) (hend : (runA us r).Q.ru = false) :
    Calls Tryz.prog 28 #[.slice A n cap, .int .i64 most] W fun e w' => ∃ (At Aa : Option Addr) (ct ca : Nat), e = .returned (.tuple #[.slice At (tellsA (runA us r).ev).length ct, .slice Aa (runA us r).ev.length ca, .bool true]) ∧ Sl w' 1 At (tellsA (runA us r).ev).length ((tellsA (runA us r).ev).map (Value.int .u64)) ∧ Sl w' 5 Aa (runA us r).ev.length (cat Ev.enc (runA us r).ev) ∧ Chg [] W w' := by
  have HT := Lib.hid hT
  have HQ := Lib.hid (show Old W 1 from hT.1.elim fun _ h => h.elim fun _ h => old h)
  have HS := Lib.hid hs
  have HRUN := Lib.hid hrun

  have HEND := Lib.hid hend
  have HU := Lib.hid hu
  have HN := Lib.hid hn
  have HM := Lib.hid hm
  have HR := Lib.hid hr
  have H45 := Lib.hid hr45
  clear hT hs hrun hend hu hn hr45
  go_enter Tryz.func28, Tryz.ntmps28
  try dsimp only [List.append]
  go_wp2_with fail
  refine (kplain _).mono ?_
  rintro e w0 ⟨rfl, c0⟩
  have C0 := Lib.hid c0
  clear c0
  go_wp2_with fail
  refine (mnew_none W w0 kc kc_ok C0.out none 0).mono ?_
  rintro e w1 ⟨sy, F0, rfl, hms, hc, _⟩
  have M0 := Lib.hid (show MS W w1 kc sy F0 kS0 from hms)
  have HC0 := Lib.hid (C0.out.trans hc)
  clear hms hc C0
  go_wp2_with fail
  refine (cnew (us := us) 0 2 (HS.out.chg HC0.out (by simp)) HN.out h5 HU.out (by decide) (by omega) (by omega)).mono ?_
  rintro e w3 ⟨kb, pb, qb, rfl, hk, hp, hq, hc, hco⟩
  have s1 := HC0.out.size
  have hms := Mem.keep M0.out hc
  have HS0 := Lib.hid (show CS W w3 kc sy F0 kS0 kb pb qb (runA us 0).Q from ⟨hms, hco, fun h => by have := Mem.old M0.out kb h; omega, fun h => by have := Mem.old M0.out pb h; omega, fun h => by have := Mem.old M0.out qb h; omega, by omega, by omega, by omega⟩)
  have HA0 := Lib.hid (show AL W w3 sy F0 (runA us 0).S kb pb qb (runA us 0).Q 1 1 0 none (runA us 0).ev from ⟨HS0.out, Vec.nil .., .inl rfl, by
    have l1 := HS0.out.lk; have l2 := HS0.out.lp; have l3 := HS0.out.lq; have l4 := Mem.new HS0.out.ms; have l5 := HQ.out.lt
    simp only [List.mem_cons, not_or]
    exact ⟨by omega, by omega, by omega, fun hm => by have := l4 _ hm; omega⟩, HQ.out.lt⟩)
  clear hk hp hq hc hco hms s1 HC0 M0 HS0
  go_wp2_with fail
  go_loopw [5, 11] (fun a i wr => ∃ (j : Nat) (F : List Nat) (be cap : Nat) (Ad : Option Addr), j ≤ r ∧ i = .int .i64 j ∧ a = .slice Ad (runA us j).ev.length cap ∧ AL W wr sy F (runA us j).S kb pb qb (runA us j).Q 1 be cap Ad (runA us j).ev ∧ ∃ cur, Inv kc (18 * j) (runA us j).S cur ∧ NN cur) (fun _ i _ => r - (intOf i).toNat)
  case atStart => exact ⟨0, F0, _, 0, none, by omega, rfl, rfl, HA0.out, _, kI0, kN0⟩
  case round =>
    clear HA0
    obtain ⟨j, F, be, cp, Ad, hj, rfl, rfl, hal, cur, hI, hNN⟩ := hrel
    have HAL1 := Lib.hid hal
    have HI := Lib.hid hI
    have HNN := Lib.hid hNN
    clear hal hI hNN
    have g1 : (j : Int) < (most : Int) := by omega
    by_cases hlt : j < r
    · have HJ := Lib.hid hlt
      have hb45 : 18 * j + 18 ≤ 828 := by have := H45.out; omega
      have HB := Lib.hid hb45
      have HE4 := Lib.hid (show (runA us j).ev.length + 4 ≤ 90000 by have := runA_len us j; have := H45.out; omega)
      clear hlt hj hb45
      obtain ⟨cur1, hw1, cur2, hl2, hi3, hi4, hi5⟩ := inv_rnd HI.out HNN.out HAL1.out.cs.co.ok.pos
      have HW1 := Lib.hid hw1
      have HL2 := Lib.hid hl2
      have HI3 := Lib.hid hi3
      have HI4 := Lib.hid hi4
      have HI5 := Lib.hid hi5
      clear hw1 hl2 hi3 hi4 hi5
      have HR2 := Lib.hid (fun li wo => Roomy.of (HI.out.loadM ((runA us j).Q.id) li wo) (by have := HB.out; omega))
      have hru := HRUN.out j HJ.out
      go_wp2_with (go_at_call 15; refine (cruns HAL1.out.cs.co.own).mono ?_; rintro e w4 ⟨rfl, rfl⟩; rw [hru]; clear hru)
      refine (yexec HAL1.out.cs HI.out HNN.out (by have := HB.out; omega) (Roomy.of HI.out (by have := HB.out; omega)) HR2.out HT.out.1).mono ?_
      rintro e w4 ⟨v1, F1, rfl, hev, hcs, hch, hF⟩
      have hl1 := execC_len (runA us j).S (runA us j).Q
      obtain ⟨be1, cp1, cx1, Ad1, Ax1, w5, rfl, e5, hal⟩ := HAL1.out.told hev hcs hch hF (by have := HE4.out; omega)
      obtain ⟨l1, hl1e⟩ : ∃ l1, l1 = (runA us j).ev ++ (execC kc (runA us j).S (runA us j).Q).ev := ⟨_, rfl⟩
      rw [← hl1e] at hal
      have HL1E := Lib.hid hl1e
      have HAL2 := Lib.hid hal
      have HB1 := Lib.hid (show l1.length ≤ (runA us j).ev.length + 2 by rw [hl1e, List.length_append]; omega)
      have hlen : (runA us j).ev.length + (execC kc (runA us j).S (runA us j).Q).ev.length = l1.length := by rw [hl1e, List.length_append]
      clear hal hev hcs hch hF HAL1 HR2 hl1e
      go_wp2_with fail
      clear e5 hlen
      refine (edrain HAL2.out.cs HW1.out.inv (by have := HB.out; omega) (Roomy.of HW1.out.inv (by have := HB.out; omega)) HT.out.1).mono ?_
      rintro e w6 ⟨v2, F2, rfl, hev, hcs, hch, hF⟩
      have hl2 := drainC_len (execC kc (runA us j).S (runA us j).Q).S (execC kc (runA us j).S (runA us j).Q).Q
      obtain ⟨be2, cp2, cx2, Ad2, Ax2, w7, rfl, e7, hal⟩ := HAL2.out.told hev hcs hch hF (by have := HE4.out; have := HB1.out; omega)
      obtain ⟨l2, hl2e⟩ : ∃ l2, l2 = l1 ++ (drainC kc (execC kc (runA us j).S (runA us j).Q).S (execC kc (runA us j).S (runA us j).Q).Q).ev := ⟨_, rfl⟩
      rw [← hl2e] at hal
      have HL2E := Lib.hid hl2e
      have HAL3 := Lib.hid hal
      have HB2 := Lib.hid (show l2.length ≤ l1.length + 1 by rw [hl2e, List.length_append]; omega)
      have hlen : l1.length + (drainC kc (execC kc (runA us j).S (runA us j).Q).S (execC kc (runA us j).S (runA us j).Q).Q).ev.length = l2.length := by rw [hl2e, List.length_append]
      clear hal hev hcs hch hF HAL2 hl2e
      go_wp2_with fail
      clear e7 hlen
      refine (uup HAL3.out.cs.ms HL2.out.inv (by have := HB.out; omega) (Roomy.of HL2.out.inv (by have := HB.out; omega)) HT.out.1 0).mono ?_
      rintro e w8 ⟨rfl, m8⟩
      obtain ⟨F3, hal⟩ := HAL3.out.sys m8
      have HAL4 := Lib.hid hal
      clear hal m8 HAL3
      go_wp2_with fail
      refine (uanswer HAL4.out.cs.ms HI3.out (by have := HB.out; omega) (Roomy.of HI3.out (by have := HB.out; omega)) HT.out.1 0).mono ?_
      rintro e w9 ⟨rfl, m9⟩
      obtain ⟨F4, hal⟩ := HAL4.out.sys m9
      have HAL5 := Lib.hid (show AL W w9 sy F4 (rA3 (runA us j).S (runA us j).Q) kb pb qb (rA2 (runA us j).S (runA us j).Q) 1 be2 cp2 Ad2 _ from hal)
      clear hal m9 HAL4
      go_wp2_with fail
      refine (uhear HAL5.out.cs.ms HI4.out (by have := HB.out; omega) (Roomy.of HI4.out (by have := HB.out; omega)) HT.out 0).mono ?_
      rintro e w10 ⟨rfl, m10⟩
      obtain ⟨F5, hal⟩ := HAL5.out.sys m10
      have HAL6 := Lib.hid hal
      clear hal m10 HAL5
      generalize hmm : (hearM kc (rA3 (runA us j).S (runA us j).Q) 0).2.m = mm
      have HMM := Lib.hid hmm
      clear hmm
      go_upto_region 13 with fail
      have HAL7 := Lib.hid (HAL6.out.keep0 ((Chg.refl [] w10).alloc (.cells (msc mm) 50)))
      have hbx : (w10.alloc (.cells (msc mm) 50)).heap[w10.heap.size]? = some (.cells (msc mm) 50 (0, 0)) := by simp
      clear HAL6
      generalize w10.alloc (.cells (msc mm) 50) = w11 at *
      generalize w10.heap.size = pm at *
      go_wp2_with fail
      refine (dhear HAL7.out.cs.co HAL7.out.cs.old mm).mono ?_
      intro e w12 hd
      obtain ⟨v3, F6, rfl, hev, hcs, hch, hF⟩ := HAL7.out.cs.ofCo hd
      have hl3 := hearC_len (rA2 (runA us j).S (runA us j).Q) mm
      obtain ⟨be3, cp3, cx3, Ad3, Ax3, w13, rfl, e13, hal⟩ := HAL7.out.told hev hcs hch hF (by have := HE4.out; have := HB1.out; have := HB2.out; omega)
      have hev4 : l2 ++ (hearC (rA2 (runA us j).S (runA us j).Q) mm).2 = (runA us (j + 1)).ev := by
        rw [HL2E.out, HL1E.out, ← HMM.out, List.append_assoc, List.append_assoc]; rfl
      have hlen : l2.length + (hearC (rA2 (runA us j).S (runA us j).Q) mm).2.length = (runA us (j + 1)).ev.length := by rw [← hev4, List.length_append]
      rw [hev4] at hal
      have HAL8 := Lib.hid hal
      clear hal hev hcs hch hF HAL7 hd hbx hev4
      go_wp2_with fail
      clear e13 hlen
      have HAL9 := HAL8.out
      have HAL0 := Lib.hid (show AL W w13 sy F6 (pdA 0 (hearM kc (rA3 (runA us j).S (runA us j).Q) 0).1) kb pb qb (runA us (j + 1)).Q 1 be3 cp3 Ad3 (runA us (j + 1)).ev from by
        have := HAL9
        rw [← HMM.out] at this
        exact this)
      clear HAL8 HAL9 hl1 hl2 hl3
      go_loopw [14] (fun i wr => ∃ (k : Nat) (F : List Nat), k ≤ 6 ∧ i = .int .i64 k ∧ AL W wr sy F (pdA k (hearM kc (rA3 (runA us j).S (runA us j).Q) 0).1) kb pb qb (runA us (j + 1)).Q 1 be3 cp3 Ad3 (runA us (j + 1)).ev) (fun i _ => 6 - (intOf i).toNat)
      case atStart => exact ⟨0, F6, by omega, rfl, HAL0.out⟩
      case round =>
        clear HAL0
        obtain ⟨k, F, hk, rfl, hal⟩ := hrel
        have HAL1 := Lib.hid hal
        clear hal
        by_cases hk6 : k < 6
        · have q1 : (k : Int) < 6 := by omega
          have HK6 := Lib.hid hk6
          have hiA := HI5.out k hk
          have HIA := Lib.hid hiA
          clear hk hk6 hiA
          go_wp2_with fail
          refine (upush HAL1.out.cs.ms HIA.out (by have := HB.out; have := HK6.out; omega) (Roomy.of HIA.out (by have := HB.out; have := HK6.out; omega)) HT.out.1 k).mono ?_
          rintro e w14 ⟨rfl, m14⟩
          obtain ⟨F7, hal⟩ := HAL1.out.sys m14
          have HAL2 := Lib.hid hal
          have HIB := Lib.hid (HIA.out.pushM (k : Int))
          clear hal m14 HAL1
          go_wp2_with fail
          refine (udrain HAL2.out.cs.ms HIB.out (by have := HB.out; have := HK6.out; omega) (Roomy.of HIB.out (by have := HB.out; have := HK6.out; omega)) HT.out.1 k).mono ?_
          rintro e w15 ⟨rfl, m15⟩
          obtain ⟨F8, hal⟩ := HAL2.out.sys m15
          have HAL3 := Lib.hid hal
          clear hal m15 HAL2
          go_wp2_with fail
          go_roundw
          case rel => exact ⟨k + 1, F8, by have := HK6.out; omega, by go_num, HAL3.out⟩
          case measure => have := HK6.out; simp [intOf]; omega
        · obtain rfl : k = 6 := by omega
          have HIF := Lib.hid (HI5.out 6 (by omega))
          clear hk hk6
          go_wp2_with fail
          go_roundw
          case rel => exact ⟨j + 1, F, be3, cp3, Ad3, by have := HJ.out; omega, by go_num, rfl, HAL1.out, cur2, by have := HIF.out; exact this, HL2.out.nn⟩
          case measure => have := HJ.out; simp [intOf]; omega
    · have : r = j := by omega
      subst this
      have hru := HEND.out
      clear hlt hj
      go_wp2_with (go_at_call 15; refine (cruns HAL1.out.cs.co.own).mono ?_; rintro e w4 ⟨rfl, rfl⟩; rw [hru])
      have HSE := Lib.hid (show Sl wr 5 Ad (runA us r).ev.length (cat Ev.enc (runA us r).ev) from HAL1.out.v.sl Ev.len)
      have HCE := Lib.hid HAL1.out.all
      have HLE := Lib.hid (show (runA us r).ev.length ≤ 90000 by have := runA_len us r; have := H45.out; omega)
      have HQR := Lib.hid HAL1.out.oq
      have HKB := Lib.hid HAL1.out.cs.co.own
      clear hru HAL1 HI HNN
      generalize hEV : (runA us r).ev = ev at *
      generalize wr = wz at *
      go_wp2_with fail
      go_loopw [4, 15] (fun o i w5 => ∃ (k be' cap' : Nat) (A' : Option Addr), k ≤ ev.length ∧ i = .int .i64 k ∧ o = .slice A' (tellsA (ev.take k)).length cap' ∧ Vec 1 43 uenc w5 1 be' A' cap' (tellsA (ev.take k)) ∧ (be' = 1 ∨ wz.heap.size ≤ be') ∧ Chg [] wz w5) (fun _ i _ => ev.length - (intOf i).toNat)
      case atStart => exact ⟨0, _, 0, none, by omega, rfl, rfl, Vec.nil .., .inl rfl, Chg.refl _ _⟩
      case round =>
        obtain ⟨k, be', cap', A', hk, rfl, rfl, hv, hbe, hc⟩ := hrel
        have HV := Lib.hid hv
        have HBE := Lib.hid hbe
        have HC := Lib.hid hc
        clear hv hbe hc
        by_cases hlt : k < ev.length
        · obtain ⟨x, hx⟩ : ∃ x, ev[k]? = some x := ⟨_, List.getElem?_eq_getElem hlt⟩
          have HX := Lib.hid hx
          have HLT := Lib.hid hlt
          have z1 : (k : Int) < (ev.length : Int) := by omega
          have z0 : (0 : Int) ≤ (k : Int) := by omega
          have z2 : (ev.length : Int) ≤ 90000 := by have := HLE.out; omega
          obtain ⟨b0, o0, hA⟩ := HSE.out.addr (by omega)
          subst hA
          obtain ⟨cA, tA, fA, hA, hcell, _⟩ := HSE.out.elem (by omega) hlt (cat_part Ev.len hx)
          have c0 := hcell 0 (by omega)
          have c4 := hcell 4 (by omega)
          rw [Nat.add_zero] at c0
          rw [show (Ev.enc x)[0]? = some (.int .i64 x.kd) from rfl] at c0
          rw [show (Ev.enc x)[4]? = some (.int .u64 x.va) from rfl] at c4
          have hAr := HC.out.keep hA (by simp)
          have TT := Lib.hid (tellsA_take hx)
          clear hx hlt hA hcell
          by_cases hk8 : x.kd = 8
          · have y1 : (x.kd == 8) = true := by simpa using hk8
            have TT2 := TT.out
            rw [if_pos hk8] at TT2
            have HTT := Lib.hid TT2
            clear hk8 TT TT2
            have c2 : Chg [] wr (wr.alloc (.cells #[.int .u64 x.va] 43)) := (Chg.refl [] wr).alloc _
            have hb2 : (wr.alloc (.cells #[.int .u64 x.va] 43)).heap[wr.heap.size]? = some (.cells #[.int .u64 x.va] 43 (0, 0)) := by simp
            have hsl : Sl (wr.alloc (.cells #[.int .u64 x.va] 43)) 1 (some ⟨wr.heap.size, 0, none⟩) 1 (cat uenc [x.va]) := ⟨rfl, .inr ⟨wr.heap.size, 0, _, _, (0, 0), rfl, hb2, rfl⟩⟩
            have htl : (tellsA (ev.take k)).length ≤ 90000 := by
              unfold tellsA
              rw [List.length_map]
              have := List.length_filter_le (fun e : Ev => e.kd == 8) (ev.take k)
              rw [List.length_take] at this
              have := HLE.out
              omega
            obtain ⟨be2, cp2, A2, w2, happ, hv2, hbe2, hc2⟩ := Vec.acc (ty := 37) eltU (w0 := wz) (HC.out.trans c2) (HV.out.keep c2 (by simp)) HBE.out HQR.out hsl (c := 1) rfl (by omega) (by simp only [maxLen]; omega)
            have HV2 := Lib.hid hv2
            have HBE2 := Lib.hid hbe2
            have HC2 := Lib.hid hc2
            have oA := old hAr
            clear hv2 hbe2 hc2 hsl hb2 c2 htl
            go_wp2_with fail
            go_roundw
            case rel => exact ⟨k + 1, be2, cp2, A2, by have := HLT.out; omega, by go_num, by rw [HTT.out, List.length_append]; rfl, by rw [HTT.out]; exact HV2.out, HBE2.out, HC2.out⟩
            case measure => have := HLT.out; simp [intOf]; omega
          · have y1 : (x.kd == 8) = false := by simpa using hk8
            have TT2 := TT.out
            rw [if_neg hk8] at TT2
            have HTT := Lib.hid TT2
            clear hk8 TT TT2
            go_wp2_with fail
            go_roundw
            case rel => exact ⟨k + 1, be', cap', A', by have := HLT.out; omega, by go_num, by rw [HTT.out], by rw [HTT.out]; exact HV.out, HBE.out, HC.out⟩
            case measure => have := HLT.out; simp [intOf]; omega
        · obtain rfl : k = ev.length := by omega
          have hvf := HV.out
          rw [List.take_length] at hvf ⊢
          have hru := HEND.out
          have hkb := HC.out.keep HKB.out (by simp)
          rw [hru] at hkb
          have HVF := Lib.hid hvf
          have HSF := Lib.hid (HSE.out.chg HC.out (by simp))
          have HCF := Lib.hid (HCE.out.trans HC.out)
          clear hvf hru HV HSE HC HCE HBE
          go_wp2_with (go_at_call 15; refine (cruns hkb).mono ?_; rintro e w6 ⟨rfl, rfl⟩)
          go_ret3
          subst hEV
          exact ⟨_, _, _, _, rfl, by have := HVF.out.sl uenc_len; rw [cat_uenc] at this; exact this, HSF.out, HCF.out⟩
end Go.Proofs.YtcjoinhngdfdmaaGreatDoor
end
section
namespace Go.Proofs.YtcjoinhngdfdmaaGreatDoor
open Go.RowKit
set_option linter.unusedVariables false
set_option maxHeartbeats 1000000

set_option maxRecDepth 100000
attribute [local go_sem ↓] append_appS copy_copS clear_clrS make_mkS cell_row frozen_row heap_drew heap_drewN heap_alloc heap_past heap_setCell heap_putRow loadSe storeSe loadIns storeIns loadEv storeEv loadRg storeRg sec_kd sec_li sec_wo sec_va sec_sn insc_op insc_a insc_b insc_c insc_im evc_kd evc_co evc_li evc_wo evc_va coc_id coc_ru coc_reg coc_pr coc_pc coc_qb coc_wt
attribute [local go_sem] rowCell_some rowFrozen_some rowHas_some rowIn_some rowPart_full rowPut_full rowSet_some run_loadS run_storeS run_appS run_copS run_clrS run_mkS loadW_at storeW_at fit_all fit_le one_int one_bool one_pointer one_slice allOne_list putRow_new ne_size1 ne_size2 wideSe wideIns wideEv wideRg sec_size sec_one sec_lit sec_z sec_ne sec_set0 sec_set1 sec_set2 sec_set3 seZ_kd seZ_li seZ_wo seZ_va seZ_sn insc_size insc_one insc_ne insc_lit insc_z evc_size evc_one evc_ne evc_lit evc_z evc_set0 evc_set1 evc_set2 evc_set3 evc_set4 evZ_kd evZ_co evZ_li evZ_wo evZ_va fold_evc coc_setRu coc_size coc_setPc coc_setWt coc_setReg coc_regs vs_size vs_one
attribute [local simp ↓] heap_drew heap_drewN heap_alloc heap_past heap_setCell heap_putRow
attribute [local simp] rowCell_some rowFrozen_some rowHas_some rowIn_some rowPart_full rowPut_full rowSet_some fit_all putRow_new ne_size1 ne_size2 sec_size insc_size evc_size coc_size coc_setRu coc_setPc coc_setWt coc_setReg vs_size fit_le
attribute [local go_sem ↓] heap_drewN
attribute [local go_sem] insc_set0 insc_set1 insc_set2 insc_set3 insc_set4 insZ_op insZ_a insZ_b insZ_c insZ_im
/-! ### CoreLoops: walked -/
theorem pword {is : List Ins} (hg : ∀ i ∈ is, goodI i = true) : ∀ u ∈ is.map codeI, 0 ≤ u ∧ u < 18446744073709551616 := by
  intro u hu
  obtain ⟨i, hi, rfl⟩ := List.mem_map.1 hu
  exact (dec_code (hg i hi)).2.2
theorem ptl_len (k : Nat) : (ptl k).length = k := by simp [ptl]
theorem ptl_at {k j : Nat} (h : j < k) : ((ptl k).map (Value.int .u64))[j]? = some (.int .u64 ((k : Int) - j)) := by simp [ptl, h]
set_option maxHeartbeats 8000000 in
theorem cloops (W : World) (hT : Tabs W) (n : Nat) (hn : n < 256) : Calls Tryz.prog 6 #[.int .u8 n] W fun e w' => e = .returned (.bool true) ∧ Chg [] W w' := by
  have HT := Lib.hid hT
  have HQ := Lib.hid (show Old W 1 from hT.1.elim fun _ h => h.elim fun _ h => old h)
  obtain ⟨k, hk⟩ : ∃ k : Nat, (n : Int) % 12 + 1 = (k : Int) := ⟨n % 12 + 1, by omega⟩
  have h1 : 1 ≤ (k : Int) := by omega
  have h12 : (k : Int) ≤ 12 := by omega
  have PF := Lib.hid (pfacts (k := k) (by omega) (by omega))
  clear hT
  go_enter Tryz.func6, Tryz.ntmps6
  try dsimp only [List.append]
  go_upto_region 2 with (fail)
  go_step
  iterate 29 (first | go_values | go_skip | go_guarded | go_step)
  go_at_K
  go_step
  go_step
  refine wp_value (v := .slice (some ⟨W.heap.size, 0, none⟩) 9 9) (w' := W.alloc (.cells (cat Ins.enc (pis k)).toArray 33)) (by kernel_rfl) ?_
  go_at_K
  have cW : Chg [] W (W.alloc (.cells (cat Ins.enc (pis k)).toArray 33)) := (Chg.refl [] W).alloc _
  have hbb : (W.alloc (.cells (cat Ins.enc (pis k)).toArray 33)).heap[W.heap.size]? = some (.cells (cat Ins.enc (pis k)).toArray 33 (0, 0)) := by simp
  have hsl : Sl (W.alloc (.cells (cat Ins.enc (pis k)).toArray 33)) 5 (some ⟨W.heap.size, 0, none⟩) 9 (cat Ins.enc (pis k)) := ⟨rfl, .inr ⟨W.heap.size, 0, _, _, (0, 0), rfl, hbb, rfl⟩⟩
  have HSL := Lib.hid hsl
  have HCW := Lib.hid cW
  clear hsl cW hbb
  generalize W.alloc (.cells (cat Ins.enc (pis k)).toArray 33) = w1 at *
  generalize W.heap.size = p1 at *
  go_wp2_with fail
  refine (rcode (q := 1) HSL.out rfl (by omega) PF.out.2.2.2 (HQ.out.chg HCW.out)).mono ?_
  rintro e w2 ⟨be, A', c', rfl, hv, _, hc2⟩
  have HC2 := Lib.hid (HCW.out.trans hc2)
  have hs2 : Sl w2 1 A' 9 ((pus k).map (Value.int .u64)) := by
    have := Vec.sl uenc_len hv
    rw [cat_uenc] at this
    exact this
  have HS2 := Lib.hid hs2
  clear hv hc2 hs2 HSL HCW
  go_wp2_with fail
  refine (alone_all w2 ⟨HT.out.1.keep HC2.out (by simp), HT.out.2.keep HC2.out (by simp)⟩ HS2.out rfl (by omega) (pword PF.out.2.2.2) 400 (3 * k + 5) (by omega) (by omega) (by omega) PF.out.1 PF.out.2.1).mono ?_
  rintro e w3 ⟨At, Aa, ct, ca, rfl, hst, _, hc3⟩
  have HC3 := Lib.hid (HC2.out.trans hc3)
  rw [PF.out.2.2.1, ptl_len] at hst
  rw [PF.out.2.2.1, ptl_len]
  have HST := Lib.hid hst
  clear hst hc3 HC2 HS2 PF
  generalize (runA (pus k) (3 * k + 5)).ev.length = na
  go_wp2_with fail
  go_loopw [8] (fun i wr => ∃ j : Nat, j ≤ k ∧ i = .int .i64 j ∧ Chg [] w3 wr) (fun i _ => k - (intOf i).toNat)
  case atStart => exact ⟨0, by omega, rfl, Chg.refl _ _⟩
  case round =>
    obtain ⟨j, hj, rfl, hc⟩ := hrel
    by_cases hlt : j < k
    · obtain ⟨b, o, rfl⟩ := HST.out.addr (by omega)
      obtain ⟨cs, t, f, hb, hi⟩ := (HST.out.chg hc (by simp)).cell hlt
      rw [ptl_at hlt] at hi
      have g1 : (j : Int) < (k : Int) := by omega
      have g0 : (0 : Int) ≤ (j : Int) := by omega
      have g2 : 0 ≤ (k : Int) - (j : Int) := by omega
      have g3 : (k : Int) - (j : Int) < 18446744073709551616 := by omega
      go_wp2_with fail
      go_roundw
      case rel => exact ⟨j + 1, by omega, by go_num, hc⟩
      case measure => simp [intOf]; omega
    · obtain rfl : j = k := by omega
      have HCE := Lib.hid (HC3.out.trans hc)
      go_wp2_with (go_at_call 12; refine (cwakes _ (HT.out.1.keep HCE.out (by simp))).mono ?_; rintro e w5 ⟨rfl, c6⟩; have HC5 := Lib.hid (HCE.out.trans c6); clear c6)
      go_ret
      exact ⟨rfl, HC5.out⟩
end Go.Proofs.YtcjoinhngdfdmaaGreatDoor
end
