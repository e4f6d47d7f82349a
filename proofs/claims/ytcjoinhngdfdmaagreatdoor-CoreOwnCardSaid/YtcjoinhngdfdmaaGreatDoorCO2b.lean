/- What a statement of layer 13 needs further, and for the last file the statement itself: for every argument. No condition. -/
import Derived.Test.YtcjoinhngdfdmaaGreatDoorCO2a
import Derived.Below
import Derived.BigQuiet
import Derived.ChangeAlike
import Derived.ChangeArms
import Derived.ChangeKeysEq
import Derived.Deep.Cut
import Derived.Deep.CutBlock
import Derived.Deep.CutRange
import Derived.Deep.DeepCutAuto
import Derived.Deep.MidRow
import Derived.Deep.Quiet
import Derived.Deep.QuietTactic
import Derived.Deep.RegionHeld3
import Derived.Deep.RegionLaw
import Derived.Deep.RegionWith
import Derived.DeepKeys
import Derived.Defers
import Derived.IntWalk
import Derived.Laws.Bits64b
import Derived.Laws.BitsAllLaws
import Derived.Laws.Entries
import Derived.Laws.LoneSync
import Derived.Laws.NewBlocks
import Derived.Laws.Pointers
import Derived.Laws.StructEq
import Derived.Lib.Hide
import Derived.Lib.SliceRun
import Derived.Maps.OwnOps
import Derived.OpenShut
import Derived.OwnWalk
import Derived.ProofKit
import Derived.RegionCalls
import Derived.RegionTactic
import Derived.StillTail
import Derived.StillTailTactics
import Derived.Tactics
import Derived.Tactics2
import Derived.Test.YtcjoinhngdfdmaaGreatDoorChecked
import Derived.WalkKit
import Derived.WideShapes
section
namespace Go.Proofs.YtcjoinhngdfdmaaGreatDoor
open Go.RowKit
set_option linter.unusedVariables false
set_option maxHeartbeats 1000000

set_option maxRecDepth 100000
attribute [local go_sem ↓] append_appS copy_copS clear_clrS make_mkS cell_row frozen_row heap_drew heap_drewN heap_alloc heap_past heap_setCell heap_putRow loadSe storeSe loadIns storeIns loadEv storeEv loadRg storeRg sec_kd sec_li sec_wo sec_va sec_sn insc_op insc_a insc_b insc_c insc_im evc_kd evc_co evc_li evc_wo evc_va coc_id coc_ru coc_reg coc_pr coc_pc coc_qb coc_wt
attribute [local go_sem] rowCell_some rowFrozen_some rowHas_some rowIn_some rowPart_full rowPut_full rowSet_some run_loadS run_storeS run_appS run_copS run_clrS run_mkS loadW_at storeW_at fit_all fit_le one_int one_bool one_pointer one_slice allOne_list putRow_new ne_size1 ne_size2 wideSe wideIns wideEv wideRg sec_size sec_one sec_lit sec_z sec_ne sec_set0 sec_set1 sec_set2 sec_set3 seZ_kd seZ_li seZ_wo seZ_va seZ_sn insc_size insc_one insc_ne insc_lit insc_z evc_size evc_one evc_ne evc_lit evc_z evc_set0 evc_set1 evc_set2 evc_set3 evc_set4 evZ_kd evZ_co evZ_li evZ_wo evZ_va fold_evc coc_setRu coc_size coc_setPc coc_setWt coc_setReg coc_regs vs_size vs_one
attribute [local simp ↓] heap_drew heap_drewN heap_alloc heap_past heap_setCell heap_putRow
attribute [local simp] rowCell_some rowFrozen_some rowHas_some rowIn_some rowPart_full rowPut_full rowSet_some fit_all putRow_new ne_size1 ne_size2 sec_size insc_size evc_size coc_size coc_setRu coc_setPc coc_setWt coc_setReg vs_size fit_le
attribute [local go_sem ↓] loadMsg storeMsg msc_kd msc_li msc_di msc_ke
attribute [local go_sem] wideMsg msc_size msc_one fold_msc
attribute [local simp] msc_size
attribute [local go_sem ↓] heap_drewN
theorem insV_oneO : ∀ v ∈ (Value.agg (insc insZ)).cells, v.oneCell' = true := by intro v hv; simp [Value.cells, insc, Ins.enc, insZ] at hv; rcases hv with rfl | rfl | rfl | rfl | rfl <;> rfl
theorem ins_infoO : (Tryz.prog.info? 33).map (fun i => (i.zero, i.size, i.bytes)) = some (some (.agg (insc insZ)), 5, 40) := by kernel_rfl
theorem eltInsO : Elt Tryz.prog 31 33 5 40 (.agg (insc insZ)) Ins.enc where
  slice := Tryz.underlying31
  info := ins_infoO
  zero := by rfl
  zone := insV_oneO
  pos := by omega
  len := Ins.len
  one := Ins.one
theorem ob4 (w : World) (a b c d : Ins) : (Instr.buildSlice 31 4 #[(0, .agg (insc a)), (1, .agg (insc b)), (2, .agg (insc c)), (3, .agg (insc d))]).run Tryz.prog w = .ok (.slice (some ⟨w.heap.size, 0, none⟩) 4 4) (w.alloc (.cells (cat Ins.enc [a, b, c, d]).toArray 33)) := by
  obtain ⟨a1, a2, a3, a4, a5⟩ := a
  obtain ⟨b1, b2, b3, b4, b5⟩ := b
  obtain ⟨c1, c2, c3, c4, c5⟩ := c
  obtain ⟨d1, d2, d3, d4, d5⟩ := d
  kernel_rfl
theorem ob4x (ρ : Operand → Value) (o : Oper) (x y z u : Operand) (ho : o.op = Op.buildSlice 31 4 #[(0, x), (1, y), (2, z), (3, u)]) (w : World) (a b c d : Ins) (hx : ρ x = .agg (insc a)) (hy : ρ y = .agg (insc b)) (hz : ρ z = .agg (insc c)) (hu : ρ u = .agg (insc d)) :
    (execOp ρ o).run Tryz.prog w = .ok (.value (.slice (some ⟨w.heap.size, 0, none⟩) 4 4)) (w.alloc (.cells (cat Ins.enc [a, b, c, d]).toArray 33)) := by
  have h := ob4 w a b c d
  unfold execOp
  rw [ho]
  simp only [List.map_toArray, List.map_cons, List.map_nil, hx, hy, hz, hu, Sem.run_bind, h, Result.andThen_ok]
  rfl
def valsO (xs : List Int) : List Int := xs.map (· + 1)
theorem valsO_ok {xs : List Int} (h : ∀ x ∈ xs, 0 ≤ x ∧ x ≤ 255) : ValsOk (valsO xs) := by
  intro v hv
  obtain ⟨x, hx, rfl⟩ := List.mem_map.1 hv
  have := h x hx
  omega
theorem valsO_get {xs : List Int} {k : Nat} {x : Int} (h : xs[k]? = some x) : (valsO xs).getD k 0 = x + 1 := by
  simp [valsO, List.getD, h]
set_option maxHeartbeats 8000000 in
theorem cown_any (W : World) (hT : Tabs W) {A B : Option Addr} {n c m d : Nat} {xs ds : List Int} (hs : Sl W 1 A n (xs.map (Value.int .u8))) (hn : xs.length = n) (hx : ∀ x ∈ xs, 0 ≤ x ∧ x ≤ 255) (hsB : Sl W 1 B m (ds.map (Value.int .u8))) (hm : ds.length = m) (hd : ∀ x ∈ ds, 0 ≤ x ∧ x ≤ 255) :
    Calls Tryz.prog 3 #[.slice A n c, .slice B m d] W fun e w' => e = .returned (.bool true) ∧ Chg [] W w' := by
  have HT := Lib.hid hT
  have HQ := Lib.hid (show Old W 1 from hT.1.elim fun _ h => h.elim fun _ h => old h)
  have HS := Lib.hid hs
  have HN := Lib.hid hn
  have HX := Lib.hid hx
  have HSB := Lib.hid hsB
  have HM := Lib.hid hm
  have HD := Lib.hid hd
  clear hT hs hn hx hsB hm hd
  go_enter Tryz.func3, Tryz.ntmps3
  try dsimp only [List.append]
  go_wp2_with fail
  refine (kplain _).mono ?_
  rintro e w0 ⟨rfl, c0⟩
  have C0 := Lib.hid c0
  clear c0
  go_wp2_with fail
  refine (mnew_none W w0 kc kc_ok C0.out none 0).mono ?_
  rintro e w1 ⟨sy, F0, rfl, hms, hc, _⟩
  have M0 := Lib.hid (show MS W w1 kc sy F0 kS0 from hms)
  have HC0 := Lib.hid (C0.out.trans hc)
  clear hms hc C0
  by_cases h20 : 20 < n
  · have g1 : (20 : Int) < (n : Int) := by omega
    go_wp2_with (go_at_call 12; refine (cwakes _ (HT.out.1.keep HC0.out (by simp))).mono ?_; rintro e w13 ⟨rfl, c13⟩; have C13 := Lib.hid (HC0.out.trans c13); clear c13)
    go_ret
    exact ⟨rfl, C13.out⟩
  have g1 : ¬ (20 : Int) < (n : Int) := by omega
  by_cases h60 : 60 < m
  · have g2 : (60 : Int) < (m : Int) := by omega
    go_wp2_with (go_at_call 12; refine (cwakes _ (HT.out.1.keep HC0.out (by simp))).mono ?_; rintro e w13 ⟨rfl, c13⟩; have C13 := Lib.hid (HC0.out.trans c13); clear c13)
    go_ret
    exact ⟨rfl, C13.out⟩
  have g2 : ¬ (60 : Int) < (m : Int) := by omega
  have H20 := Lib.hid (show n ≤ 20 by omega)
  have H60 := Lib.hid (show m ≤ 60 by omega)
  clear h20 h60
  have HV := Lib.hid (valsO_ok HX.out)
  have HVL := Lib.hid (show (valsO xs).length = n by rw [valsO, List.length_map]; exact HN.out)
  have HQ1 := Lib.hid (HQ.out.chg HC0.out)
  go_wp2_with fail
  clear g1 g2
  have g1 : (n : Int) ≤ 20 := by have := H20.out; omega
  go_loopw [7, 8] (fun o i wr => ∃ (k be cap : Nat) (A' : Option Addr), k ≤ n ∧ i = .int .i64 k ∧ o = .slice A' (4 * k) cap ∧ Vec 5 33 Ins.enc wr 1 be A' cap (oJ (valsO xs) k) ∧ (be = 1 ∨ w1.heap.size ≤ be) ∧ Chg [] w1 wr) (fun _ i _ => n - (intOf i).toNat)
  case atStart => exact ⟨0, _, 0, none, by omega, rfl, rfl, Vec.nil .., .inl rfl, Chg.refl _ _⟩
  case round =>
    obtain ⟨k, be, cap, A', hk, rfl, rfl, hv, hbe, hc⟩ := hrel
    have HVP := Lib.hid hv
    have HBE := Lib.hid hbe
    have HC := Lib.hid hc
    clear hv hbe hc
    by_cases hlt : k < n
    · obtain ⟨x, hx⟩ : ∃ x, xs[k]? = some x := ⟨xs[k]'(by rw [HN.out]; exact hlt), List.getElem?_eq_getElem _⟩
      have hxb := HX.out x (List.mem_of_getElem? hx)
      obtain ⟨x0, x1⟩ := hxb
      have g3 : (k : Int) < (n : Int) := by omega
      have g0 : (0 : Int) ≤ (k : Int) := by omega
      obtain ⟨b0, o0, hA⟩ := HS.out.addr (by omega)
      subst hA
      obtain ⟨cA, tA, fA, hA, hcell⟩ := HS.out.cell hlt
      rw [List.getElem?_map, hx, Option.map_some] at hcell
      have hAr := HC.out.keep (HC0.out.keep hA (by simp)) (by simp)
      have oA := old hAr
      have HXK := Lib.hid hx
      have HLT := Lib.hid hlt
      clear hx hlt hA hk
      go_upto_region 8 with fail
      go_step
      iterate 56 (first | go_values | go_skip | go_guarded | go_step)
      go_at_K
      go_step
      go_step
      obtain ⟨oi, hoe⟩ : ∃ oi, oi = oIn ((valsO xs).getD k 0) k := ⟨_, rfl⟩
      have hoi : oi = [⟨1, 1, 0, 0, x + 1⟩, ⟨9, 1, 0, 0, 192 + 8 * ((k : Int) % 3)⟩, ⟨8, 2, 0, 0, 192 + 8 * ((k : Int) % 3)⟩, ⟨21, 2, 0, 0, 0⟩] := by rw [hoe, valsO_get HXK.out]; rfl
      refine wp_value (v := .slice (some ⟨wr.heap.size, 0, none⟩) 4 4) (w' := wr.alloc (.cells (cat Ins.enc (oi)).toArray 33)) (by rw [hoi]; exact ob4x _ _ _ _ _ _ rfl wr ⟨1, 1, 0, 0, x + 1⟩ ⟨9, 1, 0, 0, 192 + 8 * ((k : Int) % 3)⟩ ⟨8, 2, 0, 0, 192 + 8 * ((k : Int) % 3)⟩ ⟨21, 2, 0, 0, 0⟩ rfl rfl rfl rfl) ?_
      have c2 : Chg [] wr (wr.alloc (.cells (cat Ins.enc (oi)).toArray 33)) := (Chg.refl [] wr).alloc _
      have hb2 : (wr.alloc (.cells (cat Ins.enc (oi)).toArray 33)).heap[wr.heap.size]? = some (.cells (cat Ins.enc (oi)).toArray 33 (0, 0)) := by simp
      have hsl : Sl (wr.alloc (.cells (cat Ins.enc (oi)).toArray 33)) 5 (some ⟨wr.heap.size, 0, none⟩) 4 (cat Ins.enc (oi)) := by
        have h20 : (cat Ins.enc oi).length = 4 * 5 := by rw [hoi]; rfl
        exact ⟨h20, .inr ⟨wr.heap.size, 0, _, _, (0, 0), rfl, hb2, by rw [List.drop_zero, List.toList_toArray, List.take_of_length_le (by omega)]⟩⟩
      have hlen := oJ_len (valsO xs) k
      obtain ⟨be', cp, A3, w4, happ, hv2, hbe2, hc2⟩ := Vec.acc (ty := 31) eltInsO (w0 := w1) (HC.out.trans c2) (HVP.out.keep c2 (by simp)) HBE.out HQ1.out hsl (c := 4) (by rw [hoi]; rfl) (by rw [hlen]; have := HLT.out; have := H20.out; omega) (by rw [hlen]; have := HLT.out; have := H20.out; simp only [maxLen]; omega)
      rw [hlen] at happ
      rw [hoe, ← oJ_succ] at hv2
      have HV2 := Lib.hid hv2
      have HBE2 := Lib.hid hbe2
      have HC2 := Lib.hid hc2
      clear hv2 hbe2 hc2 hsl hb2 c2 hoi hoe hAr oA
      go_at_K
      go_wp2_with fail
      go_roundw
      case rel => exact ⟨k + 1, be', cp, A3, by have := HLT.out; omega, by go_num, by rw [show 4 * (k + 1) = 4 * k + 4 by omega], HV2.out, HBE2.out, HC2.out⟩
      case measure => have := HLT.out; simp [intOf]; omega
    · have : k = n := by omega
      subst this
      clear hlt hk
      have hoi : oIs (valsO xs) = oJ (valsO xs) k ++ [⟨22, 0, 0, 0, 0⟩] := by rw [oIs, HVL.out]
      go_upto_region 9 with fail
      go_step
      iterate 5 (first | go_values | go_skip | go_guarded | go_step)
      go_at_K
      go_step
      go_step
      refine wp_value (v := .slice (some ⟨wr.heap.size, 0, none⟩) 1 1) (w' := wr.alloc (.cells (cat Ins.enc [(⟨22, 0, 0, 0, 0⟩ : Ins)]).toArray 33)) (by kernel_rfl) ?_
      have c2 : Chg [] wr (wr.alloc (.cells (cat Ins.enc [(⟨22, 0, 0, 0, 0⟩ : Ins)]).toArray 33)) := (Chg.refl [] wr).alloc _
      have hb2 : (wr.alloc (.cells (cat Ins.enc [(⟨22, 0, 0, 0, 0⟩ : Ins)]).toArray 33)).heap[wr.heap.size]? = some (.cells (cat Ins.enc [(⟨22, 0, 0, 0, 0⟩ : Ins)]).toArray 33 (0, 0)) := by simp
      have hsl : Sl (wr.alloc (.cells (cat Ins.enc [(⟨22, 0, 0, 0, 0⟩ : Ins)]).toArray 33)) 5 (some ⟨wr.heap.size, 0, none⟩) 1 (cat Ins.enc [(⟨22, 0, 0, 0, 0⟩ : Ins)]) := ⟨rfl, .inr ⟨wr.heap.size, 0, _, _, (0, 0), rfl, hb2, rfl⟩⟩
      have hlen := oJ_len (valsO xs) k
      obtain ⟨be', cp, A3, w4, happ, hv2, hbe2, hc2⟩ := Vec.acc (ty := 31) eltInsO (w0 := w1) (HC.out.trans c2) (HVP.out.keep c2 (by simp)) HBE.out HQ1.out hsl (c := 1) rfl (by rw [hlen]; have := H20.out; omega) (by rw [hlen]; have := H20.out; simp only [maxLen]; omega)
      rw [hlen] at happ
      rw [← hoi] at hv2
      have HS5 := Lib.hid (show Sl w4 5 A3 (4 * k + 1) (cat Ins.enc (oIs (valsO xs))) from by
        have := hv2.sl Ins.len
        rwa [oIs_len, HVL.out] at this)
      have HC2 := Lib.hid hc2
      clear hv2 hbe2 hc2 hsl hb2 c2 hoi HVP HBE HC
      go_at_K
      go_wp2_with fail
      clear happ hlen
      refine (rcode (q := 1) HS5.out (by rw [oIs_len, HVL.out]) (by have := H20.out; omega) (oIs_good HV.out) (HQ1.out.chg HC2.out)).mono ?_
      rintro e w5 ⟨be5, A5, c5, rfl, hv5, _, hc5⟩
      have HU := Lib.hid (show Sl w5 1 A5 (4 * k + 1) (((oIs (valsO xs)).map codeI).map (Value.int .u64)) from by
        have := hv5.sl uenc_len
        rwa [cat_uenc, List.length_map, oIs_len, HVL.out] at this)
      have HC5 := Lib.hid (HC2.out.trans hc5)
      clear hv5 hc5 HS5 HC2
      go_wp2_with fail
      refine (cnew (us := (oIs (valsO xs)).map codeI) 0 2 HU.out (by rw [List.length_map, oIs_len, HVL.out]) (by have := H20.out; omega) (fun u hu => by obtain ⟨i, hi, rfl⟩ := List.mem_map.1 hu; exact (dec_code (oIs_good HV.out i hi)).2.2) (by decide) (by omega) (by omega)).mono ?_
      rintro e w7 ⟨kb, pb, qb, rfl, hk, hp, hq, hc, hco⟩
      have s1 := HC5.out.size
      have s0 := HC0.out.size
      have hms := Mem.keep M0.out (HC5.out.trans hc)
      have HS0 := Lib.hid (show CS W w7 kc sy F0 kS0 kb pb qb (co0 0 2 ((oIs (valsO xs)).map codeI)) from ⟨hms, hco, fun h => by have := Mem.old M0.out kb h; omega, fun h => by have := Mem.old M0.out pb h; omega, fun h => by have := Mem.old M0.out qb h; omega, by omega, by omega, by omega⟩)
      have HL0 := Lib.hid (show OL W w7 sy F0 kS0 kb pb qb (co0 0 2 ((oIs (valsO xs)).map codeI)) 1 1 0 none ((valsO xs).take 0) 1 0 none ((valsO xs).take 0) from by
        have l1 := HS0.out.lk; have l2 := HS0.out.lp; have l3 := HS0.out.lq; have l4 := Mem.new HS0.out.ms; have l5 := HQ.out.lt
        have hne : 1 ∉ kb :: pb :: qb :: F0 := by
          simp only [List.mem_cons, not_or]
          exact ⟨by omega, by omega, by omega, fun hm => by have := l4 _ hm; omega⟩
        exact ⟨HS0.out, Vec.nil .., Vec.nil .., .inl rfl, .inl rfl, hne, hne, .inl rfl, HQ.out.lt⟩)
      have HTD := Lib.hid (show todoO (valsO xs).length (co0 0 2 ((oIs (valsO xs)).map codeI)).ru 0 0 0 false ≤ 102 by
        rw [HVL.out]; have := H20.out; unfold todoO; simp [co0]; omega)
      clear hk hp hq hc hco hms s1 s0 HS0 HU HC5 M0 HC0 HQ1
      go_wp2_with fail
      go_loopw [11, 12, 13] (fun a b i wr => ∃ (r : Nat) (F : List Nat) (S : Mst) (Q : Co) (j ph s : Nat) (own : Bool) (tb tc sb sc : Nat) (tA sA : Option Addr), i = .int .i64 r ∧ a = .slice tA j tc ∧ b = .slice sA s sc ∧ OL W wr sy F S kb pb qb Q 1 tb tc tA ((valsO xs).take j) sb sc sA ((valsO xs).take s) ∧ OW (valsO xs) S Q j ph s own ∧ (∃ cur, Inv kc (5 * r) S cur ∧ NN cur) ∧ todoO (valsO xs).length Q.ru j ph s own ≤ 102 ∧ r + todoO (valsO xs).length Q.ru j ph s own ≤ 162) (fun _ _ i _ => 2000 - (intOf i).toNat)
      case atStart => exact ⟨0, F0, kS0, _, 0, 0, 0, false, _, 0, _, 0, none, none, rfl, rfl, rfl, HL0.out, OW.start, ⟨_, kI0, kN0⟩, HTD.out, by have := HTD.out; omega⟩
      case round =>
        clear HL0 HTD
        obtain ⟨r, F, S, Q, j, ph, s, own, tb, tc, sb, sc, tA, sA, rfl, rfl, rfl, hol, how, ⟨cur, hI, hNN⟩, ht1, ht2⟩ := hrel
        have HOL0 := Lib.hid hol
        have HOL1 := Lib.hid hol
        have HOW := Lib.hid how
        have HI := Lib.hid hI
        have HNN := Lib.hid hNN
        have HT1 := Lib.hid ht1
        have HT2 := Lib.hid ht2
        have gr : (r : Int) < 2000 := by omega
        have gr0 : (0 : Int) ≤ (r : Int) := by omega
        clear hol how hI hNN ht1 ht2
        by_cases hgo : Q.ru = true ∨ Q.es ≠ []
        · have hB : 5 * r + 5 ≤ 815 := by have := HT2.out; omega
          have HB := Lib.hid hB
          have HGO := Lib.hid hgo
          obtain ⟨cur1, hw1⟩ := inv_own HI.out HNN.out HOL0.out.cs.co.ok.pos false
          have HW1 := Lib.hid hw1.1
          have HF := Lib.hid (inv_own HI.out HNN.out HOL0.out.cs.co.ok.pos)
          have HR2 := Lib.hid (fun li wo => Roomy.of (HI.out.loadM (Q.id) li wo) (by have := HB.out; omega))
          have HNA := Lib.hid (show noAlu Q from HOW.out.alu HV.out)
          clear hw1 hB
          have hcase : Q.ru = true ∨ (Q.ru = false ∧ (0 : Int) < (Q.es.length : Int)) := by
            cases hru : Q.ru
            · rcases hgo with e | e
              · rw [hru] at e; cases e
              · exact .inr ⟨rfl, by cases he : Q.es with
                  | nil => exact absurd he e
                  | cons a b => simp⟩
            · exact .inl rfl
          clear hgo
          by_cases hd : m ≤ r ∨ ∃ x, ds[r]? = some x ∧ x % 2 = 0
          · obtain ⟨cur1, hw1, cur2, hi3, hn3, hi4, hi5⟩ := HF.out true
            have HI3 := Lib.hid hi3
            have HN3 := Lib.hid hn3
            have HI4 := Lib.hid hi4
            have HI5 := Lib.hid hi5
            obtain ⟨j', ph', s', own', how', htl, hst, hle, hlt⟩ := round_own HV.out true HOW.out HGO.out
            have HOW' := Lib.hid how'
            have HTL := Lib.hid htl
            have HST := Lib.hid hst
            have HTD := Lib.hid (hlt rfl)
            clear hw1 hi3 hn3 hi4 hi5 how' htl hst hle hlt HF
            have hcd : (m : Int) ≤ (r : Int) ∨ ((r : Int) < (m : Int) ∧ ∃ x bB oB' cB tB fB, ds[r]? = some x ∧ ((x % 2 == 0) = true ∧ 0 ≤ x ∧ x ≤ 255) ∧ B = some ⟨bB, oB', none⟩ ∧ W.heap[bB]? = some (.cells cB tB fB) ∧ cB[oB' + r]? = some (.int .u8 x)) := by
              by_cases hmr : m ≤ r
              · exact .inl (by omega)
              · rcases hd with hd | ⟨x, hx, h2⟩
                · exact absurd hd hmr
                · obtain ⟨bB, oB', hB⟩ := HSB.out.addr (by omega)
                  have hsb := HSB.out
                  rw [hB] at hsb
                  obtain ⟨cB, tB, fB, hBW, hz⟩ := hsb.cell (i := r) (by omega)
                  rw [List.getElem?_map, hx, Option.map_some] at hz
                  have := HD.out x (List.mem_of_getElem? hx)
                  exact .inr ⟨by omega, x, bB, oB', cB, tB, fB, hx, ⟨by simpa using h2, this⟩, hB, hBW, hz⟩
            clear hd
            rcases hcd with gm | ⟨gm, x, bB, oB', cB, tB, fB, hxr, ⟨hx2, hx0, hx255⟩, rfl, hBW, hz⟩ <;> rcases hcase with hru | ⟨hru, hes⟩
            all_goals (try have HBW := Lib.hid hBW)
            all_goals (try clear hBW hxr)
            all_goals as_aux_lemma =>
              go_wp2_with (first
                | (go_at_call 15; refine (cruns HOL0.out.cs.co.own).mono ?_; rintro e w' ⟨rfl, rfl⟩; rw [hru])
                | (go_at_call 16; refine (ebuffer HOL0.out.cs).mono ?_; rintro e w20 ⟨b20, rfl, _, c20, _⟩; replace HOL1 := Lib.hid (HOL0.out.keep0 c20); clear c20))
              refine (xexec HOL1.out.cs HI.out HNN.out (by have := HB.out; omega) (Roomy.of HI.out (by have := HB.out; omega)) HR2.out HT.out.1 HNA.out).mono ?_
              rintro e w4 ⟨v1, F1, rfl, hev, hcs, hch, hF⟩
              obtain ⟨A1, c1, rfl, hs1, ha1⟩ := hev.sl2
              have HOL2 := Lib.hid (HOL1.out.step hcs hch hF)
              have HS1 := Lib.hid hs1
              have HA1 := Lib.hid (fun (a : Addr) (ha : A1 = some a) => show w4.heap.size ≤ w4.heap.size ∧ a.block ≠ tb ∧ a.block ≠ sb ∧ a.block < w4.heap.size from by
                obtain ⟨q1, q2⟩ := ha1 a ha
                obtain ⟨_, n1, n2, _, _⟩ := HOL1.out.new q1
                exact ⟨Nat.le_refl _, fun e => n1 e.symm, fun e => n2 e.symm, q2⟩)
              have HE2 := Lib.hid (execC_len S Q)
              clear hev hcs hch hF hs1 ha1 HOL0 HOL1
              try (have hBr := HOL2.out.all.keep HBW.out (by simp); have oB := old hBr)
              obtain ⟨b3, c3, A3', w5, happ, hv3, hb3, cc3⟩ := HOL2.out.join1 (c := c1) HS1.out rfl (by have := HE2.out; omega)
              have HOL3 := Lib.hid (HOL2.out.keep0 cc3)
              obtain ⟨nf, n1, n2, n3, nW⟩ := HOL2.out.new hb3
              have HNF := Lib.hid nf
              have HN12 := Lib.hid (And.intro n1 (And.intro n2 nW))
              have HV3 := Lib.hid hv3
              clear hv3 hb3 cc3 nf n1 n2 n3 nW
              go_wp2_with fail
              clear happ
              refine (edrain HOL3.out.cs HW1.out.inv (by have := HB.out; omega) (Roomy.of HW1.out.inv (by have := HB.out; omega)) HT.out.1).mono ?_
              rintro e w6 ⟨v2, F2, rfl, hev, hcs, hch, hF⟩
              obtain ⟨A2', c2', rfl, hs2, _⟩ := hev.sl2
              have HOL4 := Lib.hid (HOL3.out.step hcs hch hF)
              have nf2 := OL.out (HV3.out.old HOL3.out.oq).lt HNF.out hF
              have hl3 := drainC_len (execC kc S Q).S (execC kc S Q).Q
              obtain ⟨c5', Ae, w7', happ, hsl, hol, hap⟩ := HOL4.out.join2 (HV3.out.keep hch HNF.out) nf2 HN12.out.1 HN12.out.2.1 HN12.out.2.2 hs2 (c := c2') rfl (by have := HE2.out; omega)
              obtain ⟨ev, hevd⟩ : ∃ ev, ev = (execC kc S Q).ev ++ (drainC kc (execC kc S Q).S (execC kc S Q).Q).ev := ⟨_, rfl⟩
              have hlen : (execC kc S Q).ev.length + (drainC kc (execC kc S Q).S (execC kc S Q).Q).ev.length = ev.length := by rw [hevd, List.length_append]
              rw [← hevd] at hsl
              have hsl2 := hsl
              rw [hlen] at hsl2
              have HSE := Lib.hid hsl2
              have HAP := Lib.hid hap
              have HLE := Lib.hid (show ev.length ≤ 3 by have := HE2.out; omega)
              have HEV := Lib.hid (show ev = (rO true S Q).ev from hevd)
              have HOLz := Lib.hid (show OL W w7' sy F2 (rO1 true S Q).S kb pb qb (rO1 true S Q).Q 1 tb tc tA ((valsO xs).take j) sb sc sA ((valsO xs).take s) from hol)
              obtain ⟨Fz, hFz⟩ : ∃ Fz, Fz = F2 := ⟨_, rfl⟩
              rw [← hFz] at HOLz
              clear hFz hev hcs hch hF hs2 nf2 hl3 hsl hsl2 hol hap hevd HOL2 HOL3 HOL4 HV3 HNF HN12 HE2 HS1 HA1 HW1 HR2 HNA
              try clear hBr oB HBW
              go_wp2_with fail
              clear happ hlen
              have HJL := Lib.hid (show ((valsO xs).take j).length = j by rw [List.length_take, Nat.min_eq_left HOW.out.jn])
              have HSL := Lib.hid (show ((valsO xs).take s).length = s by rw [List.length_take, Nat.min_eq_left (Nat.le_trans HOW.out.st1 (tO_le HOW.out))])
              have HL20 := Lib.hid (show j ≤ 20 ∧ s ≤ 20 from by
                have h1 := HOW.out.jn; have h2 := Nat.le_trans HOW.out.st1 (tO_le HOW.out)
                rw [HVL.out] at h1 h2
                have := H20.out; omega)
              go_loopw [11, 12, 15] (fun a b i wr => ∃ (i1 tb1 tc1 sb1 sc1 : Nat) (tA1 sA1 : Option Addr), i1 ≤ ev.length ∧ i = .int .i64 i1 ∧ a = .slice tA1 (j + (tellsO (ev.take i1)).length) tc1 ∧ b = .slice sA1 (s + (storesO (ev.take i1)).length) sc1 ∧ OL W wr sy Fz (rO1 true S Q).S kb pb qb (rO1 true S Q).Q 1 tb1 tc1 tA1 ((valsO xs).take j ++ tellsO (ev.take i1)) sb1 sc1 sA1 ((valsO xs).take s ++ storesO (ev.take i1)) ∧ Sl wr 5 Ae ev.length (cat Ev.enc ev) ∧ ∀ a, Ae = some a → a.block ≠ tb1 ∧ a.block ≠ sb1 ∧ a.block < wr.heap.size) (fun _ _ i _ => ev.length - (intOf i).toNat)
              case atStart => exact ⟨0, tb, tc, sb, sc, tA, sA, by omega, rfl, rfl, rfl, by have := HOLz.out; simpa [tellsO, storesO] using this, HSE.out, HAP.out⟩
              case round =>
                clear HOLz HSE HAP
                obtain ⟨i1, tb1, tc1, sb1, sc1, tA1, sA1, hi1, rfl, rfl, rfl, hol, hse, hap⟩ := hrel
                have HOLe := Lib.hid hol
                have HSEe := Lib.hid hse
                have HAPe := Lib.hid hap
                clear hol hse hap
                by_cases hlt : i1 < ev.length
                · obtain ⟨x, hx⟩ : ∃ x, ev[i1]? = some x := ⟨_, List.getElem?_eq_getElem hlt⟩
                  have HLT1 := Lib.hid hlt
                  have z1 : (i1 : Int) < (ev.length : Int) := by omega
                  have z0 : (0 : Int) ≤ (i1 : Int) := by omega
                  have z2 : (ev.length : Int) ≤ 3 := by have := HLE.out; omega
                  obtain ⟨b0, o0, hAe⟩ := HSEe.out.addr (by omega)
                  subst hAe
                  obtain ⟨cA, tAx, fA, hA, hcell, _⟩ := HSEe.out.elem (by omega) hlt (cat_part Ev.len hx)
                  have c0 := hcell 0 (by omega)
                  have c4 := hcell 4 (by omega)
                  rw [Nat.add_zero] at c0
                  rw [show (Ev.enc x)[0]? = some (.int .i64 x.kd) from rfl] at c0
                  rw [show (Ev.enc x)[4]? = some (.int .u64 x.va) from rfl] at c4
                  have oA := old hA
                  have TT := Lib.hid (tellsO_take hx)
                  have TS := Lib.hid (storesO_take hx)
                  have HTK := Lib.hid (show (tellsO (ev.take i1)).length ≤ 3 ∧ (storesO (ev.take i1)).length ≤ 3 from by
                    have h1 := List.length_filter_le isTell (ev.take i1)
                    have h2 := List.length_filter_le isStore (ev.take i1)
                    have h3 := HLE.out
                    rw [List.length_take] at h1 h2
                    unfold tellsO storesO
                    rw [List.length_map, List.length_map]
                    omega)
                  clear hx hlt hcell hi1
                  by_cases hk8 : x.kd = 8
                  · skip
                    have y1 : (x.kd == 8) = true := by simpa using hk8
                    have y2 : (x.kd == 3) = false := by simp; omega
                    have e1 := TT.out
                    have e2 := TS.out
                    rw [if_pos hk8] at e1
                    rw [if_neg (by omega)] at e2
                    have E1 := Lib.hid e1
                    have E2 := Lib.hid e2
                    clear e1 e2 TT TS
                    have HOLb := HOLe.out.keep0 ((Chg.refl [] wr).alloc (.cells #[.int .u64 x.va] 43))
                    have hb2 : (wr.alloc (.cells #[.int .u64 x.va] 43)).heap[wr.heap.size]? = some (.cells #[.int .u64 x.va] 43 (0, 0)) := by simp
                    have hsl : Sl (wr.alloc (.cells #[.int .u64 x.va] 43)) 1 (some ⟨wr.heap.size, 0, none⟩) 1 (cat uenc [x.va]) := ⟨rfl, .inr ⟨wr.heap.size, 0, _, _, (0, 0), rfl, hb2, rfl⟩⟩
                    obtain ⟨b2, c2', A2', w2, happ, hol2, hch2, hn2⟩ := HOLb.appT hsl (c := 1) rfl (by rw [List.length_append, HJL.out]; have := HL20.out; have := HTK.out; omega)
                    rw [List.length_append, HJL.out] at happ
                    have HCH := Lib.hid (((Chg.refl [] wr).alloc (.cells #[.int .u64 x.va] 43)).mono (l' := [tb1]) (by simp) |>.trans hch2)
                    have hA2 := HCH.out.keep hA (by simpa using (HAPe.out _ rfl).1)
                    have oA2 := old hA2
                    have HOL2' := Lib.hid hol2
                    have HN2 := Lib.hid (show b2 = tb1 ∨ wr.heap.size ≤ b2 from by
                      rcases hn2 with e | e
                      · exact .inl e
                      · have := ((Chg.refl [] wr).alloc (.cells #[.int .u64 x.va] 43)).size
                        exact .inr (by omega))
                    have HA0 := Lib.hid hA
                    clear HOLb hb2 hsl hol2 hch2 hn2
                    go_wp2_with fail
                    go_roundw
                    case rel => exact ⟨i1 + 1, b2, c2', sb1, sc1, A2', sA1, by have := HLT1.out; omega, by go_num, by rw [E1.out, List.length_append]; rfl, by rw [E2.out], by rw [E1.out, E2.out, ← List.append_assoc]; exact HOL2'.out, HSEe.out.chg HCH.out (by intro a ha; simpa using (HAPe.out a ha).1), fun a ha => ⟨by rcases HN2.out with e | e; exact e ▸ (HAPe.out a ha).1; have := (HAPe.out a ha).2.2; omega, (HAPe.out a ha).2.1, by have := (HAPe.out a ha).2.2; have := HCH.out.size; omega⟩⟩
                    case measure => have := HLT1.out; simp [intOf]; omega
                  by_cases hk3 : x.kd = 3
                  · skip
                    have y1 : (x.kd == 8) = false := by simp; omega
                    have y2 : (x.kd == 3) = true := by simpa using hk3
                    have e1 := TT.out
                    have e2 := TS.out
                    rw [if_neg (by omega)] at e1
                    rw [if_pos hk3] at e2
                    have E1 := Lib.hid e1
                    have E2 := Lib.hid e2
                    clear e1 e2 TT TS
                    have HOLb := HOLe.out.keep0 ((Chg.refl [] wr).alloc (.cells #[.int .u64 x.va] 43))
                    have hb2 : (wr.alloc (.cells #[.int .u64 x.va] 43)).heap[wr.heap.size]? = some (.cells #[.int .u64 x.va] 43 (0, 0)) := by simp
                    have hsl : Sl (wr.alloc (.cells #[.int .u64 x.va] 43)) 1 (some ⟨wr.heap.size, 0, none⟩) 1 (cat uenc [x.va]) := ⟨rfl, .inr ⟨wr.heap.size, 0, _, _, (0, 0), rfl, hb2, rfl⟩⟩
                    obtain ⟨b2, c2', A2', w2, happ, hol2, hch2, hn2⟩ := HOLb.appS hsl (c := 1) rfl (by rw [List.length_append, HSL.out]; have := HL20.out; have := HTK.out; omega)
                    rw [List.length_append, HSL.out] at happ
                    have HCH := Lib.hid (((Chg.refl [] wr).alloc (.cells #[.int .u64 x.va] 43)).mono (l' := [sb1]) (by simp) |>.trans hch2)
                    have hA2 := HCH.out.keep hA (by simpa using (HAPe.out _ rfl).2.1)
                    have oA2 := old hA2
                    have HOL2' := Lib.hid hol2
                    have HN2 := Lib.hid (show b2 = sb1 ∨ wr.heap.size ≤ b2 from by
                      rcases hn2 with e | e
                      · exact .inl e
                      · have := ((Chg.refl [] wr).alloc (.cells #[.int .u64 x.va] 43)).size
                        exact .inr (by omega))
                    have HA0 := Lib.hid hA
                    clear HOLb hb2 hsl hol2 hch2 hn2
                    go_wp2_with fail
                    go_roundw
                    case rel => exact ⟨i1 + 1, tb1, tc1, b2, c2', tA1, A2', by have := HLT1.out; omega, by go_num, by rw [E1.out], by rw [E2.out, List.length_append]; rfl, by rw [E1.out, E2.out, ← List.append_assoc]; exact HOL2'.out, HSEe.out.chg HCH.out (by intro a ha; simpa using (HAPe.out a ha).2.1), fun a ha => ⟨(HAPe.out a ha).1, by rcases HN2.out with e | e; exact e ▸ (HAPe.out a ha).2.1; have := (HAPe.out a ha).2.2; omega, by have := (HAPe.out a ha).2.2; have := HCH.out.size; omega⟩⟩
                    case measure => have := HLT1.out; simp [intOf]; omega
                  · skip
                    have y1 : (x.kd == 8) = false := by simpa using hk8
                    have y2 : (x.kd == 3) = false := by simpa using hk3
                    have e1 := TT.out
                    have e2 := TS.out
                    rw [if_neg hk8] at e1
                    rw [if_neg hk3] at e2
                    have E1 := Lib.hid e1
                    have E2 := Lib.hid e2
                    clear e1 e2 TT TS
                    go_wp2_with fail
                    go_roundw
                    case rel => exact ⟨i1 + 1, tb1, tc1, sb1, sc1, tA1, sA1, by have := HLT1.out; omega, by go_num, by rw [E1.out], by rw [E2.out], by rw [E1.out, E2.out]; exact HOLe.out, HSEe.out, HAPe.out⟩
                    case measure => have := HLT1.out; simp [intOf]; omega
                · have : i1 = ev.length := by omega
                  subst this
                  have hol := HOLe.out
                  rw [List.take_length, HEV.out, HTL.out, HST.out] at hol
                  have hj2 : j + (tellsO (ev.take ev.length)).length = j' := by
                    rw [List.take_length, HEV.out]
                    have h1 := congrArg List.length HTL.out
                    rw [List.length_append, HJL.out, List.length_take, Nat.min_eq_left HOW'.out.jn] at h1
                    exact h1
                  have hs2 : s + (storesO (ev.take ev.length)).length = s' := by
                    rw [List.take_length, HEV.out]
                    have h1 := congrArg List.length HST.out
                    rw [List.length_append, HSL.out, List.length_take, Nat.min_eq_left (Nat.le_trans HOW'.out.st1 (tO_le HOW'.out))] at h1
                    exact h1
                  rw [hj2, hs2]
                  have HOLf := Lib.hid hol
                  clear hol hj2 hs2 HOLe HSEe HAPe hlt hi1 HEV HLE HTL HST HJL HSL
                  go_wp2_with fail
                  refine (uup HOLf.out.cs.ms HI3.out (by have := HB.out; omega) (Roomy.of HI3.out (by have := HB.out; omega)) HT.out.1 0).mono ?_
                  rintro e w8 ⟨rfl, m8⟩
                  obtain ⟨F3, hol⟩ := HOLf.out.sys m8
                  have HOLg := Lib.hid hol
                  clear hol m8 HOLf
                  go_wp2_with fail
                  refine (uhear HOLg.out.cs.ms HI4.out (by have := HB.out; omega) (Roomy.of HI4.out (by have := HB.out; omega)) HT.out 0).mono ?_
                  rintro e w10 ⟨rfl, m10⟩
                  obtain ⟨F5, hol⟩ := HOLg.out.sys m10
                  have HOLh := Lib.hid hol
                  clear hol m10 HOLg
                  generalize hmm : (hearM kc (upM kc (rO1 true S Q).S 0).1 0).2.m = mm
                  have HMM := Lib.hid hmm
                  clear hmm
                  go_upto_region 29 with fail
                  have HOLi := Lib.hid (HOLh.out.keep0 ((Chg.refl [] w10).alloc (.cells (msc mm) 50)))
                  have hbx : (w10.alloc (.cells (msc mm) 50)).heap[w10.heap.size]? = some (.cells (msc mm) 50 (0, 0)) := by simp
                  clear HOLh
                  generalize w10.alloc (.cells (msc mm) 50) = w11 at *
                  generalize w10.heap.size = pm at *
                  go_wp2_with fail
                  refine (dhear HOLi.out.cs.co HOLi.out.cs.old mm).mono ?_
                  intro e w12 hd
                  obtain ⟨v3, F6, rfl, hev, hcs, hch, hF⟩ := HOLi.out.cs.ofCo hd
                  have HOLj := Lib.hid (HOLi.out.step hcs hch hF)
                  clear hev hcs hch hF hd HOLi hbx
                  go_wp2_with fail
                  refine ⟨⟨r + 1, F6, (rO true S Q).S, (rO true S Q).Q, j', ph', s', own', tb1, tc1, sb1, sc1, tA1, sA1, by go_num, rfl, rfl, ?_, HOW'.out, ⟨cur2, by have := HI5.out; rwa [show 5 * (r + 1) = 5 * r + 5 by omega], HN3.out⟩, ?_, ?_⟩, ?_⟩
                  · have := HOLj.out
                    rw [← HMM.out] at this
                    exact this
                  · have := HTD.out; have := HT1.out; omega
                  · have := HTD.out; have := HT2.out; have := HT1.out; omega
                  · have := gr; simp [intOf]; omega
          · obtain ⟨cur1, hw1, cur2, hi3, hn3, hi4, hi5⟩ := HF.out false
            have HI3 := Lib.hid hi3
            have HN3 := Lib.hid hn3
            have HI4 := Lib.hid hi4
            have HI5 := Lib.hid hi5
            obtain ⟨j', ph', s', own', how', htl, hst, hle, hlt⟩ := round_own HV.out false HOW.out HGO.out
            have HOW' := Lib.hid how'
            have HTL := Lib.hid htl
            have HST := Lib.hid hst
            have HTD := Lib.hid hle
            clear hw1 hi3 hn3 hi4 hi5 how' htl hst hle hlt HF
            have hmr : r < m := by
              rcases Nat.lt_or_ge r m with e | e
              · exact e
              · exact absurd (Or.inl e) hd
            have HR60 := Lib.hid (show r + 1 ≤ 60 by have := H60.out; omega)
            obtain ⟨x, hxr⟩ : ∃ x, ds[r]? = some x := ⟨ds[r]'(by rw [HM.out]; exact hmr), List.getElem?_eq_getElem _⟩
            have hx2 : (x % 2 == 0) = false := by
              have : ¬ x % 2 = 0 := fun e => hd (Or.inr ⟨x, hxr, e⟩)
              simpa using this
            obtain ⟨hx0, hx255⟩ := HD.out x (List.mem_of_getElem? hxr)
            obtain ⟨bB, oB', hB⟩ := HSB.out.addr (by omega)
            have hsb := HSB.out
            rw [hB] at hsb
            obtain ⟨cB, tB, fB, hBW, hz⟩ := hsb.cell hmr
            rw [List.getElem?_map, hxr, Option.map_some] at hz
            subst hB
            have HBW := Lib.hid hBW
            have gm : (r : Int) < (m : Int) := by omega
            clear hd hmr hxr hBW hsb
            rcases hcase with hru | ⟨hru, hes⟩
            all_goals as_aux_lemma =>
              go_wp2_with (first
                | (go_at_call 15; refine (cruns HOL0.out.cs.co.own).mono ?_; rintro e w' ⟨rfl, rfl⟩; rw [hru])
                | (go_at_call 16; refine (ebuffer HOL0.out.cs).mono ?_; rintro e w20 ⟨b20, rfl, _, c20, _⟩; replace HOL1 := Lib.hid (HOL0.out.keep0 c20); clear c20))
              refine (xexec HOL1.out.cs HI.out HNN.out (by have := HB.out; omega) (Roomy.of HI.out (by have := HB.out; omega)) HR2.out HT.out.1 HNA.out).mono ?_
              rintro e w4 ⟨v1, F1, rfl, hev, hcs, hch, hF⟩
              obtain ⟨A1, c1, rfl, hs1, ha1⟩ := hev.sl2
              have HOL2 := Lib.hid (HOL1.out.step hcs hch hF)
              have HS1 := Lib.hid hs1
              have HA1 := Lib.hid (fun (a : Addr) (ha : A1 = some a) => show w4.heap.size ≤ w4.heap.size ∧ a.block ≠ tb ∧ a.block ≠ sb ∧ a.block < w4.heap.size from by
                obtain ⟨q1, q2⟩ := ha1 a ha
                obtain ⟨_, n1, n2, _, _⟩ := HOL1.out.new q1
                exact ⟨Nat.le_refl _, fun e => n1 e.symm, fun e => n2 e.symm, q2⟩)
              have HE2 := Lib.hid (execC_len S Q)
              clear hev hcs hch hF hs1 ha1 HOL0 HOL1
              try (have hBr := HOL2.out.all.keep HBW.out (by simp); have oB := old hBr)
              obtain ⟨ev, hevd⟩ : ∃ ev, ev = (execC kc S Q).ev := ⟨_, rfl⟩
              have hlen : (execC kc S Q).ev.length = ev.length := by rw [hevd]
              obtain ⟨Ae, hAe⟩ : ∃ Ae, Ae = A1 := ⟨_, rfl⟩
              have hse := HS1.out
              rw [hlen, ← hevd, ← hAe] at hse
              rw [← hAe, hlen]
              have HSE := Lib.hid hse
              have HAP := Lib.hid (fun (a : Addr) (ha : Ae = some a) => (HA1.out a (hAe ▸ ha)).2)
              have HLE := Lib.hid (show ev.length ≤ 3 by have := HE2.out; omega)
              have HEV := Lib.hid (show ev = (rO false S Q).ev from hevd)
              have HOLz := Lib.hid (show OL W w4 sy F1 (rO1 false S Q).S kb pb qb (rO1 false S Q).Q 1 tb tc tA ((valsO xs).take j) sb sc sA ((valsO xs).take s) from HOL2.out)
              obtain ⟨Fz, hFz⟩ : ∃ Fz, Fz = F1 := ⟨_, rfl⟩
              rw [← hFz] at HOLz
              clear hFz hse hAe hevd HOL2 HE2 HS1 HA1 HW1 HR2 HNA hlen
              go_wp2_with fail
              try clear hBr oB HBW
              have HJL := Lib.hid (show ((valsO xs).take j).length = j by rw [List.length_take, Nat.min_eq_left HOW.out.jn])
              have HSL := Lib.hid (show ((valsO xs).take s).length = s by rw [List.length_take, Nat.min_eq_left (Nat.le_trans HOW.out.st1 (tO_le HOW.out))])
              have HL20 := Lib.hid (show j ≤ 20 ∧ s ≤ 20 from by
                have h1 := HOW.out.jn; have h2 := Nat.le_trans HOW.out.st1 (tO_le HOW.out)
                rw [HVL.out] at h1 h2
                have := H20.out; omega)
              go_loopw [11, 12, 15] (fun a b i wr => ∃ (i1 tb1 tc1 sb1 sc1 : Nat) (tA1 sA1 : Option Addr), i1 ≤ ev.length ∧ i = .int .i64 i1 ∧ a = .slice tA1 (j + (tellsO (ev.take i1)).length) tc1 ∧ b = .slice sA1 (s + (storesO (ev.take i1)).length) sc1 ∧ OL W wr sy Fz (rO1 false S Q).S kb pb qb (rO1 false S Q).Q 1 tb1 tc1 tA1 ((valsO xs).take j ++ tellsO (ev.take i1)) sb1 sc1 sA1 ((valsO xs).take s ++ storesO (ev.take i1)) ∧ Sl wr 5 Ae ev.length (cat Ev.enc ev) ∧ ∀ a, Ae = some a → a.block ≠ tb1 ∧ a.block ≠ sb1 ∧ a.block < wr.heap.size) (fun _ _ i _ => ev.length - (intOf i).toNat)
              case atStart => exact ⟨0, tb, tc, sb, sc, tA, sA, by omega, rfl, rfl, rfl, by have := HOLz.out; simpa [tellsO, storesO] using this, HSE.out, HAP.out⟩
              case round =>
                clear HOLz HSE HAP
                obtain ⟨i1, tb1, tc1, sb1, sc1, tA1, sA1, hi1, rfl, rfl, rfl, hol, hse, hap⟩ := hrel
                have HOLe := Lib.hid hol
                have HSEe := Lib.hid hse
                have HAPe := Lib.hid hap
                clear hol hse hap
                by_cases hlt : i1 < ev.length
                · obtain ⟨x, hx⟩ : ∃ x, ev[i1]? = some x := ⟨_, List.getElem?_eq_getElem hlt⟩
                  have HLT1 := Lib.hid hlt
                  have z1 : (i1 : Int) < (ev.length : Int) := by omega
                  have z0 : (0 : Int) ≤ (i1 : Int) := by omega
                  have z2 : (ev.length : Int) ≤ 3 := by have := HLE.out; omega
                  obtain ⟨b0, o0, hAe⟩ := HSEe.out.addr (by omega)
                  subst hAe
                  obtain ⟨cA, tAx, fA, hA, hcell, _⟩ := HSEe.out.elem (by omega) hlt (cat_part Ev.len hx)
                  have c0 := hcell 0 (by omega)
                  have c4 := hcell 4 (by omega)
                  rw [Nat.add_zero] at c0
                  rw [show (Ev.enc x)[0]? = some (.int .i64 x.kd) from rfl] at c0
                  rw [show (Ev.enc x)[4]? = some (.int .u64 x.va) from rfl] at c4
                  have oA := old hA
                  have TT := Lib.hid (tellsO_take hx)
                  have TS := Lib.hid (storesO_take hx)
                  have HTK := Lib.hid (show (tellsO (ev.take i1)).length ≤ 3 ∧ (storesO (ev.take i1)).length ≤ 3 from by
                    have h1 := List.length_filter_le isTell (ev.take i1)
                    have h2 := List.length_filter_le isStore (ev.take i1)
                    have h3 := HLE.out
                    rw [List.length_take] at h1 h2
                    unfold tellsO storesO
                    rw [List.length_map, List.length_map]
                    omega)
                  clear hx hlt hcell hi1
                  by_cases hk8 : x.kd = 8
                  · skip
                    have y1 : (x.kd == 8) = true := by simpa using hk8
                    have y2 : (x.kd == 3) = false := by simp; omega
                    have e1 := TT.out
                    have e2 := TS.out
                    rw [if_pos hk8] at e1
                    rw [if_neg (by omega)] at e2
                    have E1 := Lib.hid e1
                    have E2 := Lib.hid e2
                    clear e1 e2 TT TS
                    have HOLb := HOLe.out.keep0 ((Chg.refl [] wr).alloc (.cells #[.int .u64 x.va] 43))
                    have hb2 : (wr.alloc (.cells #[.int .u64 x.va] 43)).heap[wr.heap.size]? = some (.cells #[.int .u64 x.va] 43 (0, 0)) := by simp
                    have hsl : Sl (wr.alloc (.cells #[.int .u64 x.va] 43)) 1 (some ⟨wr.heap.size, 0, none⟩) 1 (cat uenc [x.va]) := ⟨rfl, .inr ⟨wr.heap.size, 0, _, _, (0, 0), rfl, hb2, rfl⟩⟩
                    obtain ⟨b2, c2', A2', w2, happ, hol2, hch2, hn2⟩ := HOLb.appT hsl (c := 1) rfl (by rw [List.length_append, HJL.out]; have := HL20.out; have := HTK.out; omega)
                    rw [List.length_append, HJL.out] at happ
                    have HCH := Lib.hid (((Chg.refl [] wr).alloc (.cells #[.int .u64 x.va] 43)).mono (l' := [tb1]) (by simp) |>.trans hch2)
                    have hA2 := HCH.out.keep hA (by simpa using (HAPe.out _ rfl).1)
                    have oA2 := old hA2
                    have HOL2' := Lib.hid hol2
                    have HN2 := Lib.hid (show b2 = tb1 ∨ wr.heap.size ≤ b2 from by
                      rcases hn2 with e | e
                      · exact .inl e
                      · have := ((Chg.refl [] wr).alloc (.cells #[.int .u64 x.va] 43)).size
                        exact .inr (by omega))
                    have HA0 := Lib.hid hA
                    clear HOLb hb2 hsl hol2 hch2 hn2
                    go_wp2_with fail
                    go_roundw
                    case rel => exact ⟨i1 + 1, b2, c2', sb1, sc1, A2', sA1, by have := HLT1.out; omega, by go_num, by rw [E1.out, List.length_append]; rfl, by rw [E2.out], by rw [E1.out, E2.out, ← List.append_assoc]; exact HOL2'.out, HSEe.out.chg HCH.out (by intro a ha; simpa using (HAPe.out a ha).1), fun a ha => ⟨by rcases HN2.out with e | e; exact e ▸ (HAPe.out a ha).1; have := (HAPe.out a ha).2.2; omega, (HAPe.out a ha).2.1, by have := (HAPe.out a ha).2.2; have := HCH.out.size; omega⟩⟩
                    case measure => have := HLT1.out; simp [intOf]; omega
                  by_cases hk3 : x.kd = 3
                  · skip
                    have y1 : (x.kd == 8) = false := by simp; omega
                    have y2 : (x.kd == 3) = true := by simpa using hk3
                    have e1 := TT.out
                    have e2 := TS.out
                    rw [if_neg (by omega)] at e1
                    rw [if_pos hk3] at e2
                    have E1 := Lib.hid e1
                    have E2 := Lib.hid e2
                    clear e1 e2 TT TS
                    have HOLb := HOLe.out.keep0 ((Chg.refl [] wr).alloc (.cells #[.int .u64 x.va] 43))
                    have hb2 : (wr.alloc (.cells #[.int .u64 x.va] 43)).heap[wr.heap.size]? = some (.cells #[.int .u64 x.va] 43 (0, 0)) := by simp
                    have hsl : Sl (wr.alloc (.cells #[.int .u64 x.va] 43)) 1 (some ⟨wr.heap.size, 0, none⟩) 1 (cat uenc [x.va]) := ⟨rfl, .inr ⟨wr.heap.size, 0, _, _, (0, 0), rfl, hb2, rfl⟩⟩
                    obtain ⟨b2, c2', A2', w2, happ, hol2, hch2, hn2⟩ := HOLb.appS hsl (c := 1) rfl (by rw [List.length_append, HSL.out]; have := HL20.out; have := HTK.out; omega)
                    rw [List.length_append, HSL.out] at happ
                    have HCH := Lib.hid (((Chg.refl [] wr).alloc (.cells #[.int .u64 x.va] 43)).mono (l' := [sb1]) (by simp) |>.trans hch2)
                    have hA2 := HCH.out.keep hA (by simpa using (HAPe.out _ rfl).2.1)
                    have oA2 := old hA2
                    have HOL2' := Lib.hid hol2
                    have HN2 := Lib.hid (show b2 = sb1 ∨ wr.heap.size ≤ b2 from by
                      rcases hn2 with e | e
                      · exact .inl e
                      · have := ((Chg.refl [] wr).alloc (.cells #[.int .u64 x.va] 43)).size
                        exact .inr (by omega))
                    have HA0 := Lib.hid hA
                    clear HOLb hb2 hsl hol2 hch2 hn2
                    go_wp2_with fail
                    go_roundw
                    case rel => exact ⟨i1 + 1, tb1, tc1, b2, c2', tA1, A2', by have := HLT1.out; omega, by go_num, by rw [E1.out], by rw [E2.out, List.length_append]; rfl, by rw [E1.out, E2.out, ← List.append_assoc]; exact HOL2'.out, HSEe.out.chg HCH.out (by intro a ha; simpa using (HAPe.out a ha).2.1), fun a ha => ⟨(HAPe.out a ha).1, by rcases HN2.out with e | e; exact e ▸ (HAPe.out a ha).2.1; have := (HAPe.out a ha).2.2; omega, by have := (HAPe.out a ha).2.2; have := HCH.out.size; omega⟩⟩
                    case measure => have := HLT1.out; simp [intOf]; omega
                  · skip
                    have y1 : (x.kd == 8) = false := by simpa using hk8
                    have y2 : (x.kd == 3) = false := by simpa using hk3
                    have e1 := TT.out
                    have e2 := TS.out
                    rw [if_neg hk8] at e1
                    rw [if_neg hk3] at e2
                    have E1 := Lib.hid e1
                    have E2 := Lib.hid e2
                    clear e1 e2 TT TS
                    go_wp2_with fail
                    go_roundw
                    case rel => exact ⟨i1 + 1, tb1, tc1, sb1, sc1, tA1, sA1, by have := HLT1.out; omega, by go_num, by rw [E1.out], by rw [E2.out], by rw [E1.out, E2.out]; exact HOLe.out, HSEe.out, HAPe.out⟩
                    case measure => have := HLT1.out; simp [intOf]; omega
                · have : i1 = ev.length := by omega
                  subst this
                  have hol := HOLe.out
                  rw [List.take_length, HEV.out, HTL.out, HST.out] at hol
                  have hj2 : j + (tellsO (ev.take ev.length)).length = j' := by
                    rw [List.take_length, HEV.out]
                    have h1 := congrArg List.length HTL.out
                    rw [List.length_append, HJL.out, List.length_take, Nat.min_eq_left HOW'.out.jn] at h1
                    exact h1
                  have hs2 : s + (storesO (ev.take ev.length)).length = s' := by
                    rw [List.take_length, HEV.out]
                    have h1 := congrArg List.length HST.out
                    rw [List.length_append, HSL.out, List.length_take, Nat.min_eq_left (Nat.le_trans HOW'.out.st1 (tO_le HOW'.out))] at h1
                    exact h1
                  rw [hj2, hs2]
                  have HOLf := Lib.hid hol
                  clear hol hj2 hs2 HOLe HSEe HAPe hlt hi1 HEV HLE HTL HST HJL HSL
                  go_wp2_with fail
                  refine (uup HOLf.out.cs.ms HI3.out (by have := HB.out; omega) (Roomy.of HI3.out (by have := HB.out; omega)) HT.out.1 0).mono ?_
                  rintro e w8 ⟨rfl, m8⟩
                  obtain ⟨F3, hol⟩ := HOLf.out.sys m8
                  have HOLg := Lib.hid hol
                  clear hol m8 HOLf
                  go_wp2_with fail
                  refine (uhear HOLg.out.cs.ms HI4.out (by have := HB.out; omega) (Roomy.of HI4.out (by have := HB.out; omega)) HT.out 0).mono ?_
                  rintro e w10 ⟨rfl, m10⟩
                  obtain ⟨F5, hol⟩ := HOLg.out.sys m10
                  have HOLh := Lib.hid hol
                  clear hol m10 HOLg
                  generalize hmm : (hearM kc (upM kc (rO1 false S Q).S 0).1 0).2.m = mm
                  have HMM := Lib.hid hmm
                  clear hmm
                  go_upto_region 29 with fail
                  have HOLi := Lib.hid (HOLh.out.keep0 ((Chg.refl [] w10).alloc (.cells (msc mm) 50)))
                  have hbx : (w10.alloc (.cells (msc mm) 50)).heap[w10.heap.size]? = some (.cells (msc mm) 50 (0, 0)) := by simp
                  clear HOLh
                  generalize w10.alloc (.cells (msc mm) 50) = w11 at *
                  generalize w10.heap.size = pm at *
                  go_wp2_with fail
                  refine (dhear HOLi.out.cs.co HOLi.out.cs.old mm).mono ?_
                  intro e w12 hd
                  obtain ⟨v3, F6, rfl, hev, hcs, hch, hF⟩ := HOLi.out.cs.ofCo hd
                  have HOLj := Lib.hid (HOLi.out.step hcs hch hF)
                  clear hev hcs hch hF hd HOLi hbx
                  go_wp2_with fail
                  refine ⟨⟨r + 1, F6, (rO false S Q).S, (rO false S Q).Q, j', ph', s', own', tb1, tc1, sb1, sc1, tA1, sA1, by go_num, rfl, rfl, ?_, HOW'.out, ⟨cur2, by have := HI5.out; rwa [show 5 * (r + 1) = 5 * r + 5 by omega], HN3.out⟩, ?_, ?_⟩, ?_⟩
                  · have := HOLj.out
                    rw [← HMM.out] at this
                    exact this
                  · have := HTD.out; have := HT1.out; omega
                  · have := HTD.out; have := HT2.out; have := HT1.out; have := HR60.out; omega
                  · have := gr; simp [intOf]; omega
        · have hru : Q.ru = false := by
            cases e : Q.ru
            · rfl
            · exact absurd (Or.inl e) hgo
          have hes : Q.es = [] := by
            cases e : Q.es with
            | nil => rfl
            | cons a b => exact absurd (Or.inr (by rw [e]; simp)) hgo
          obtain ⟨hj, hs⟩ := HOW.out.done hru hes
          have hel : Q.es.length = 0 := by rw [hes]; rfl
          rw [HVL.out] at hj hs
          subst hj hs
          clear hgo hes
          go_wp2_with (first
            | (go_at_call 15; refine (cruns HOL0.out.cs.co.own).mono ?_; rintro e w' ⟨rfl, rfl⟩; rw [hru])
            | (go_at_call 16; refine (ebuffer HOL0.out.cs).mono ?_; rintro e w20 ⟨b20, rfl, _, c20, _⟩; rw [hel]; replace HOL1 := Lib.hid (HOL0.out.keep0 c20); clear c20))
          have htv := HOL1.out.tv.sl uenc_len
          have hsv := HOL1.out.sv.sl uenc_len
          rw [cat_uenc, List.length_take, HVL.out, Nat.min_self, List.take_of_length_le (by rw [HVL.out]; exact Nat.le_refl _)] at htv hsv
          have HTV := Lib.hid htv
          have HSV := Lib.hid hsv
          have HAL := Lib.hid HOL1.out.all
          clear htv hsv HOL0 HOL1 HOW HI HNN HT1 HT2 hel hru gr
          go_loopw [18] (fun i w5 => ∃ i1 : Nat, i1 ≤ s ∧ i = .int .i64 i1 ∧ Chg [] w20 w5) (fun i _ => s - (intOf i).toNat)
          case atStart => exact ⟨0, by omega, rfl, Chg.refl _ _⟩
          case round =>
            obtain ⟨i1, hi1, rfl, hc⟩ := hrel
            have HC2 := Lib.hid hc
            clear hc
            by_cases hlt : i1 < s
            · obtain ⟨x, hx⟩ : ∃ x, xs[i1]? = some x := ⟨xs[i1]'(by rw [HN.out]; exact hlt), List.getElem?_eq_getElem _⟩
              have hxb := HX.out x (List.mem_of_getElem? hx)
              obtain ⟨x0, x1⟩ := hxb
              obtain ⟨bA, oA, hA⟩ := HS.out.addr (by omega)
              subst hA
              obtain ⟨cA, tAA, fA, hA, zA⟩ := HS.out.cell hlt
              rw [List.getElem?_map, hx, Option.map_some] at zA
              have hvx : ((valsO xs).map (Value.int .u64))[i1]? = some (.int .u64 (x + 1)) := by rw [List.getElem?_map, valsO, List.getElem?_map, hx]; rfl
              obtain ⟨bT, oT, hT2⟩ := HTV.out.addr (by omega)
              subst hT2
              obtain ⟨cT, tT, fT, hT3, zT⟩ := HTV.out.cell hlt
              rw [hvx] at zT
              obtain ⟨bS, oS, hS2⟩ := HSV.out.addr (by omega)
              subst hS2
              obtain ⟨cS, tS, fS, hS3, zS⟩ := HSV.out.cell hlt
              rw [hvx] at zS
              have rA := HC2.out.keep (HAL.out.keep hA (by simp)) (by simp)
              have rT := HC2.out.keep hT3 (by simp)
              have rS := HC2.out.keep hS3 (by simp)
              have qA := old rA
              have qT := old rT
              have qS := old rS
              have g3 : (i1 : Int) < (s : Int) := by omega
              have g0 : (0 : Int) ≤ (i1 : Int) := by omega
              have w1' : IntKind.u64.wrap x = x := by have := IntKind.wrap_u64 x; omega
              have w2' : IntKind.u64.wrap (x + 1) = x + 1 := by have := IntKind.wrap_u64 (x + 1); omega
              have HLT := Lib.hid hlt
              clear hx hlt hvx hA hT3 hS3 hi1
              go_wp2_with fail
              go_quiet (fail)
              go_wp2_with fail
              refine ⟨⟨i1 + 1, HLT.out, by go_num, HC2.out.drewN _⟩, ?_⟩
              have := HLT.out
              simp [intOf]; omega
            · have : i1 = s := by omega
              subst this
              clear hlt hi1
              go_wp2_with (go_at_call 12; refine (cwakes _ (HT.out.1.keep (HAL.out.trans HC2.out) (by simp))).mono ?_; rintro e w13 ⟨rfl, c13⟩; have C13 := Lib.hid ((HAL.out.trans HC2.out).trans c13); clear c13)
              go_ret
              exact ⟨rfl, C13.out⟩
end Go.Proofs.YtcjoinhngdfdmaaGreatDoor
end
