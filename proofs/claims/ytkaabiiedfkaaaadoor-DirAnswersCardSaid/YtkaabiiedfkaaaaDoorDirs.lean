/- The document's small calls on an entry: walked. No condition. -/
import Derived.Test.YtkaabiiedfkaaaaDoorDirr
import Derived.BigQuiet
import Derived.Deep.RegionWith
import Derived.Deep.RegionHeld3
import Derived.Deep.QuietTactic
namespace Go.Proofs.YtkaabiiedfkaaaaDoor
open Go.RowKit
set_option linter.unusedVariables false
set_option maxHeartbeats 1000000
attribute [local go_sem ↓] append_appS copy_copS clear_clrS make_mkS slice_slS cell_row frozen_row loadLine storeLine loadMsg storeMsg heap_drew heap_drewN heap_alloc heap_past heap_setCell heap_putRow vs_get msc_kd msc_li msc_di msc_ke
attribute [local go_sem] rowCell_some rowFrozen_some rowHas_some rowIn_some rowPart_full rowPart_lit rowPut_full rowPut_lit rowSet_some size_putRow vs_size vs_one wideLine wideMsg run_loadS run_storeS run_appS run_copS run_clrS run_mkS run_slS loadW_at storeW_at fit_all fit_le one_int one_bool one_pointer one_slice allOne_list putRow_new ne_size1 ne_size2 ne_size3 ne_size4 zero8_length line_eq lit8 msc_size msc_one msc_part msc_in fold_msc
attribute [local simp ↓] heap_drew heap_drewN heap_alloc heap_past heap_setCell heap_putRow
attribute [local simp] rowCell_some rowFrozen_some rowHas_some rowIn_some rowPart_full rowPart_lit rowPut_full rowPut_lit rowSet_some size_putRow vs_size fit_all putRow_new ne_size1 ne_size2 ne_size3 ne_size4 zero8_length msc_size
attribute [local go_sem ↓] ec_he ec_di ec_ow ec_sh ec_bu ec_by ec_wa sc_to
attribute [local go_sem] mi_and mi_or mi_not mi_beq0 mi_bne0 ec_size ec_one ec_part ec_in ec_has ec_setDi ec_setOw ec_setSh ec_setBu ec_setBy ec_setWa ec_setSh0 ec_setWa0 ec_putM sc_size sc_one sc_part sc_in
attribute [local simp] ec_size sc_size ec_setDi ec_setOw ec_setSh ec_setBu ec_setBy ec_setWa ec_setSh0 ec_setWa0 ec_putM
attribute [local go_sem ↓] loadEn storeEn loadSd storeSd en_z0
attribute [local go_sem] wideEn wideSd fold_sc size11 putRow_newB putRow_newC ms5_lit
attribute [local simp] en_z0 putRow_newB putRow_newC fit_le ec_has
attribute [local go_sem ↓] loadEnR storeEnR loadSdR storeSdR
attribute [local go_sem] wideEnR wideSdR


/-- On its way. -/
def busyE (x : En) (k b : Int) (s : Mk) : En := ((x.setBu k).setBy b).setWa s
theorem rbusy_any (x : En) (k b : Int) (s : Mk) (w : World) : Calls Tryd.prog 35 #[.agg (ec x), .int .i64 k, .int .i64 b, .int .u8 (mi s)] w fun e w' => e = .returned (.agg (ec (busyE x k b s))) ∧ Chg [] w w' := by
  go_enter Tryd.func35, Tryd.ntmps35
  try dsimp only [List.append]
  go_wp2
  refine bodyPost_ret (v := .agg (ec (busyE x k b s))) ?_ (by rfl) ?_
  · exact results_er1 (by rfl) _ _ (w.heap.size + 1) (busyE x k b s) (0, 0) (by rfl) (by simp; rfl)
  exact ⟨rfl, by (repeat' (first | with_reducible exact Chg.refl _ _ | with_reducible assumption | with_reducible refine Chg.drew ?_ | with_reducible refine Chg.drewN ?_ _ | with_reducible refine Chg.alloc ?_ _ | with_reducible refine Chg.putRow ?_ _ _ _ (.inr ?_) | with_reducible refine Chg.setCell ?_ _ _ _ (.inr ?_)  | (show _ ≤ _; first | exact Nat.le_refl _ | omega | (simp; done))))⟩
theorem rbusy0_any (x : En) (w : World) : Calls Tryd.prog 35 #[.agg (ec x), .int .i64 0, .int .i64 0, .int .u8 0] w fun e w' => e = .returned (.agg (ec (overE x))) ∧ Chg [] w w' := rbusy_any x 0 0 0#8 w
theorem results_sr1 {fn : Func} {p : Tmp} (h : fn.results = #[.cell p 68]) (tmps : Array Value) (w : World) (b : Nat) (x : Sd) (fr : Nat × Nat)
    (hp : tmps.getD p undef = .pointer (some ⟨b, 0, none⟩)) (hb : w.heap[b]? = some (.cells (sc x) 68 fr)) :
    (results fn tmps).run Tryd.prog w = .ok (.agg (sc x)) w := by
  have hp' : tmps[p]?.getD undef = .pointer (some ⟨b, 0, none⟩) := by simpa using hp
  have := run_loadVar_row (P := Tryd.prog) w b 68 68 (sc x) fr _ hb Tryd.underlying68 rfl (by rw [sc_size]; kernel_rfl)
  simp [results, h, hp', asAddr, this]
theorem rtell_any (d kd li : Int) (l : List Int) (h8 : l.length = 8) (w : World) : Calls Tryd.prog 37 #[.int .i64 d, .int .i64 kd, .int .i64 li, .agg (vs l)] w fun e w' => e = .returned (.agg (sc ⟨d, ms5 kd li l h8⟩)) ∧ Chg [] w w' := by
  have hsd := fun C h h0 => sd_lit d (ms5 kd li l h8) C h h0
  have hm5 := ms5_lit kd li l h8
  go_enter Tryd.func37, Tryd.ntmps37
  try dsimp only [List.append]
  go_wp2
  refine bodyPost_ret (v := .agg (sc ⟨d, ms5 kd li l h8⟩)) ?_ (by rfl) ?_
  · exact results_sr1 (by rfl) _ _ (w.heap.size + 1) ⟨d, ms5 kd li l h8⟩ (0, 0) (by rfl) (by simp; try rfl)
  exact ⟨rfl, by (repeat' (first | with_reducible exact Chg.refl _ _ | with_reducible assumption | with_reducible refine Chg.drew ?_ | with_reducible refine Chg.drewN ?_ _ | with_reducible refine Chg.alloc ?_ _ | with_reducible refine Chg.putRow ?_ _ _ _ (.inr ?_) | with_reducible refine Chg.setCell ?_ _ _ _ (.inr ?_)  | (show _ ≤ _; first | exact Nat.le_refl _ | omega | (simp; done))))⟩
theorem rtell0_any (d kd li : Int) (w : World) : Calls Tryd.prog 37 #[.int .i64 d, .int .i64 kd, .int .i64 li, .agg #[.int .u64 0, .int .u64 0, .int .u64 0, .int .u64 0, .int .u64 0, .int .u64 0, .int .u64 0, .int .u64 0]] w fun e w' => e = .returned (.agg (sc ⟨d, ms4 kd li false false⟩)) ∧ Chg [] w w' := rtell_any d kd li z8 rfl w
theorem rowned_any (x : En) (c : Int) (w : World) : Calls Tryd.prog 38 #[.agg (ec x), .int .i64 c] w fun e w' => e = .returned (.agg (ec (overE ((x.setOw c).setSh 0#8)))) ∧ Chg [] w w' := by
  go_enter Tryd.func38, Tryd.ntmps38
  try dsimp only [List.append]
  go_wp2_with fail
  refine gen_calls2 (w := w) (b1 := w.heap.size) (x1 := .cells (ec ((x.setOw c).setSh 0#8)) 33 (0, 0)) (b2 := w.heap.size + 1) (x2 := .cells (ec (enZ)) 33 (0, 0)) (by (repeat' (first | with_reducible exact Chg.refl _ _ | with_reducible assumption | with_reducible refine Chg.drew ?_ | with_reducible refine Chg.drewN ?_ _ | with_reducible refine Chg.alloc ?_ _ | with_reducible refine Chg.putRow ?_ _ _ _ (.inr ?_) | with_reducible refine Chg.setCell ?_ _ _ _ (.inr ?_)  | (show _ ≤ _; first | exact Nat.le_refl _ | omega | (simp; done))))) (by simp [*]) (by simp [*]) fun w1 C1 rE rR => ?_
  have oE := old rE
  have oR := old rR
  refine (rbusy0_any _ _).mono ?_
  rintro e w2 ⟨rfl, c2⟩
  have rR2 := c2.keep rR (by simp)
  go_wp2_with fail
  refine bodyPost_ret (v := .agg (ec (overE ((x.setOw c).setSh 0#8)))) ?_ (by rfl) ?_
  · exact results_er1 (by rfl) _ _ (w.heap.size + 1) _ (0, 0) (by rfl) (by simp [rR2]; try rfl)
  exact ⟨rfl, by (repeat' (first | with_reducible exact Chg.refl _ _ | with_reducible assumption | with_reducible refine Chg.drew ?_ | with_reducible refine Chg.drewN ?_ _ | with_reducible refine Chg.alloc ?_ _ | with_reducible refine Chg.putRow ?_ _ _ _ (.inr ?_) | with_reducible refine Chg.setCell ?_ _ _ _ (.inr ?_)  | with_reducible refine Chg.trans ?_ c2 | with_reducible refine Chg.trans (b := World.drew _) ?_ c2 | (show _ ≤ _; first | exact Nat.le_refl _ | omega | (simp; done))))⟩
theorem eltSr : Elt Tryd.prog 34 68 13 96 (.agg (sc ⟨0, msZ⟩)) Sd.enc where
  slice := Tryd.underlying34
  info := by kernel_rfl
  zero := rfl
  zone := by intro v hv; exact Sd.one ⟨0, msZ⟩ v (by simpa [Value.cells, sc] using hv)
  pos := by omega
  len := Sd.len
  one := Sd.one
theorem Vec.sdsR {w w' : World} {q be cap : Nat} {A : Option Addr} {xs : List Sd} (hv : Vec 13 68 Sd.enc w' q be A cap xs) (hb : be = q ∨ w.heap.size ≤ be) (hc : Chg [] w w') : SdsTo w xs (.returned (.slice A xs.length cap)) w' := by
  refine ⟨A, cap, rfl, hv.sl Sd.len, ?_, hc⟩
  rintro a rfl
  rcases hv with ⟨_, h, _⟩ | ⟨h1, h2, _⟩
  · cases h
  · cases h2
    rcases hb with rfl | h
    · exact absurd rfl h1
    · exact h
theorem sr_slice (w : World) (s : Sd) : Sl (w.alloc (.cells (sc s) 68)) 13 (some ⟨w.heap.size, 0, none⟩) 1 (cat Sd.enc [s]) :=
  ⟨by rw [cat_length Sd.len]; rfl, .inr ⟨w.heap.size, 0, sc s, 68, (0, 0), rfl, by simp, by rw [cat_one]; simp [sc, Sd.len, List.take_of_length_le]⟩⟩
theorem rall_any (s : Mk) (kd li : Int) (w : World) (h0 : Old w 0) : Calls Tryd.prog 39 #[.int .u8 (mi s), .int .i64 kd, .int .i64 li] w (SdsTo w (tellL s (ms4 kd li false false))) := by
  have H0 := Lib.hid h0
  have h8 := cores_len s
  clear h0
  go_enter Tryd.func39, Tryd.ntmps39
  try dsimp only [List.append]
  go_wp2_with fail
  refine (rcores_any s w H0.out).mono ?_
  rintro e w2 ⟨A, cp0, rfl, hs, hA, c2⟩
  have HA := Lib.hid hs
  have C2 := Lib.hid c2
  have HL : ∃ n, n = (coresL s).length := ⟨_, rfl⟩
  obtain ⟨N, hN⟩ := HL
  rw [← hN] at HA h8 ⊢
  have HN := Lib.hid hN
  clear hs hA c2 hN
  go_wp2_with fail
  go_loopw [7, 9] (fun x i wr => ∃ (k be cp : Nat) (B : Option Addr) (xs : List Sd), k ≤ N ∧ i = .int .i64 k ∧ xs = (tellL s (ms4 kd li false false)).take k ∧ x = .slice B xs.length cp ∧ Chg [] w2 wr ∧ Vec 13 68 Sd.enc wr 0 be B cp xs ∧ (be = 0 ∨ w2.heap.size ≤ be)) (fun _ i _ => N - (intOf i).toNat)
  case atStart => exact ⟨0, 0, 0, none, [], by omega, rfl, rfl, rfl, Chg.refl _ _, Vec.nil _ _ _ _ _, .inl rfl⟩
  case round =>
    obtain ⟨k, be, cp, B, xs, hk, rfl, hxs, rfl, hc, hvb, hbe⟩ := hrel
    by_cases hlt : k < N
    · have g1 : (k : Int) < (N : Int) := by omega
      have g0 : (0 : Int) ≤ (k : Int) := by omega
      have g2 : (N : Int) ≤ 8 := by omega
      obtain ⟨b, o, rfl⟩ := HA.out.addr (by omega)
      obtain ⟨cs, t, f, hb, hcell⟩ := (HA.out.chg hc (by simp)).cell hlt
      obtain ⟨y, hy⟩ : ∃ y, (coresL s)[k]? = some y := ⟨(coresL s)[k]'(by rw [← HN.out]; exact hlt), List.getElem?_eq_getElem _⟩
      rw [List.getElem?_map, hy] at hcell
      simp only [Option.map_some] at hcell
      have ht : xs ++ [⟨y, ms4 kd li false false⟩] = (tellL s (ms4 kd li false false)).take (k + 1) := by rw [hxs, List.take_add_one]; simp [tellL, hy]
      have hlen : xs.length ≤ 8 := by rw [hxs, List.length_take]; omega
      have HT := Lib.hid ht
      have HX := Lib.hid hxs
      have HV := Lib.hid hvb
      have HB := Lib.hid hbe
      have HC := Lib.hid hc
      have hLc := HN.out
      clear hvb hc hbe hy ht hxs hLc
      go_wp2_with fail
      refine (rtell0_any y kd li wr).mono ?_
      rintro e w5 ⟨rfl, c5⟩
      obtain ⟨be', cap', A', w3, happ, hv2, hbe2, hc2⟩ := Vec.acc (ty := 34) eltSr ((HC.out.trans c5).alloc (.cells (sc ⟨y, ms4 kd li false false⟩) 68)) (HV.out.keep (c5.alloc (.cells (sc ⟨y, ms4 kd li false false⟩) 68)) (by simp)) HB.out ((H0.out.chg C2.out)) (sr_slice w5 ⟨y, ms4 kd li false false⟩) (c := 1) rfl (by omega) (by unfold maxLen; omega)
      have HL := Lib.hid (show xs.length + 1 = (xs ++ [(⟨y, ms4 kd li false false⟩ : Sd)]).length by rw [List.length_append]; rfl)
      have HV2 := Lib.hid hv2
      have HB2 := Lib.hid hbe2
      have HC2 := Lib.hid hc2
      clear c5 hv2 hbe2 hc2
      go_wp2_with fail
      go_roundw
      case rel => exact ⟨k + 1, be', cap', A', xs ++ [⟨y, ms4 kd li false false⟩], by omega, by go_num, HT.out, by rw [← HL.out], HC2.out, HV2.out, HB2.out⟩
      case measure => simp [intOf]; omega
    · obtain rfl : k = N := by omega
      have hall : xs = tellL s (ms4 kd li false false) := by rw [hxs]; exact List.take_of_length_le (by rw [HN.out]; simp [tellL])
      have HV := Lib.hid hvb
      have HC := Lib.hid (C2.out.trans hc)
      have HB := Lib.hid (show be = 0 ∨ w.heap.size ≤ be by have := C2.out.size; omega)
      clear hvb hc hbe hxs
      go_wp2_with fail
      go_ret
      rw [← hall]
      exact Vec.sdsR HV.out HB.out HC.out

theorem rgood_at (x : En) (b : Bool) (h : goodE x = b) (w : World) : Calls Tryd.prog 13 #[.agg (ec x)] w fun e w' => e = .returned (.bool b) ∧ Chg [] w w' := h ▸ rgood_any7 x w
theorem rready_any (x : En) (w : World) : Calls Tryd.prog 15 #[.agg (ec x)] w fun e w' => e = .returned (.bool (readyE x)) ∧ Chg [] w w' := by
  unfold readyE
  have rE : (w.alloc (.cells (ec (x)) 33 (0, 0))).heap[w.heap.size]? = some (.cells (ec (x)) 33 (0, 0)) := by simp
  have C1 := (Chg.refl [] w).alloc (.cells (ec (x)) 33 (0, 0))
  cases t1 : goodE x
  · skip
    go_enter Tryd.func15, Tryd.ntmps15
    try dsimp only [List.append]
    go_wp2_with fail
    generalize w.alloc (.cells (ec (x)) 33 (0, 0)) = w1 at rE C1 ⊢
    refine (rgood_at x _ t1 _).mono ?_
    rintro e w3 ⟨rfl, c3⟩
    go_wp2_with fail
    go_ret
    exact ⟨by simp, C1.trans c3⟩
  · cases t2 : (x.bu == 4) <;> cases t3 : (x.bu == 5)
    all_goals
      go_enter Tryd.func15, Tryd.ntmps15
      try dsimp only [List.append]
      go_wp2_with fail
      generalize w.alloc (.cells (ec (x)) 33 (0, 0)) = w1 at rE C1 ⊢
      refine (rgood_at x _ t1 _).mono ?_
      rintro e w3 ⟨rfl, c3⟩
      have rE3 := c3.keep rE (by simp)
      clear rE
      go_wp2_with fail
      go_ret
      exact ⟨by simp, C1.trans c3⟩
theorem rready_at (x : En) (b : Bool) (h : readyE x = b) (w : World) : Calls Tryd.prog 15 #[.agg (ec x)] w fun e w' => e = .returned (.bool b) ∧ Chg [] w w' := h ▸ rready_any x w
theorem rempty_any (w : World) : Calls Tryd.prog 19 #[] w fun e w' => e = .returned (.agg (ec enE)) ∧ Chg [] w w' := by
  go_enter Tryd.func19, Tryd.ntmps19
  try dsimp only [List.append]
  go_wp2
  refine bodyPost_ret (v := .agg (ec enE)) ?_ (by rfl) ?_
  · exact results_er1 (by rfl) _ _ (w.heap.size) enE (0, 0) (by rfl) (by simp; rfl)
  exact ⟨rfl, by (repeat' (first | with_reducible exact Chg.refl _ _ | with_reducible assumption | with_reducible refine Chg.drew ?_ | with_reducible refine Chg.drewN ?_ _ | with_reducible refine Chg.alloc ?_ _ | with_reducible refine Chg.putRow ?_ _ _ _ (.inr ?_) | with_reducible refine Chg.setCell ?_ _ _ _ (.inr ?_)  | (show _ ≤ _; first | exact Nat.le_refl _ | omega | (simp; done))))⟩

theorem er_eq (a b : En) (w : World) : (Op.equalIn 10000 33 (.agg (ec a)) (.agg (ec b))).run Tryd.prog w = .ok (decide (a = b)) w := by
  have p := fun (x : En) => run_part_plain (P := Tryd.prog) w (e := 4) (by kernel_rfl) (ec_he x)
  have q := fun (x : En) => run_part_plain (P := Tryd.prog) w (e := 4) (by kernel_rfl) (ec_di x)
  have r := fun (x : En) => run_part_plain (P := Tryd.prog) w (e := 3) (by kernel_rfl) (ec_ow x)
  have s := fun (x : En) => run_part_plain (P := Tryd.prog) w (e := 5) (by kernel_rfl) (ec_sh x)
  have t := fun (x : En) => run_part_plain (P := Tryd.prog) w (e := 3) (by kernel_rfl) (ec_bu x)
  have u := fun (x : En) => run_part_plain (P := Tryd.prog) w (e := 3) (by kernel_rfl) (ec_by x)
  have v := fun (x : En) => run_part_plain (P := Tryd.prog) w (e := 5) (by kernel_rfl) (ec_wa x)
  have l := fun (x : En) => line_partE x w
  have e0 := fun a b => run_equalIn_int w 9998 3 .i64 .i64 a b Tryd.underlying3
  have e8 := fun a b => run_equalIn_int w 9998 5 .u8 .u8 a b Tryd.underlying5
  have e1 := fun a b => run_equalIn_bool w 9998 4 a b Tryd.underlying4
  have e2 : (Op.equalIn 9999 24 (.agg (vs a.l)) (.agg (vs b.l))).run Tryd.prog w = .ok (a.l == b.l) w := by
    obtain ⟨i0, hi0⟩ : ∃ i, Tryd.prog.info? 22 = some i := Option.isSome_iff_exists.1 (by kernel_rfl)
    rw [run_equalIn_array w 9998 _ _ Tryd.underlying24 hi0, show Tryd.prog.cellsOf 22 = 1 by kernel_rfl]
    have := eqItems_ints (P := Tryd.prog) w 9997 (k := .u64) Tryd.underlying22 (by kernel_rfl) a.l b.l (List.range 8) (by intro i hi; have := a.h; have := b.h; simp at hi; omega)
    unfold vs
    rw [this]
    congr 1
    rw [Bool.eq_iff_iff]
    simp only [List.all_eq_true, List.mem_range, beq_iff_eq]
    constructor
    · intro h
      apply List.ext_getElem (by rw [a.h, b.h])
      intro j h1 h2
      have := h j (by rw [a.h] at h1; exact h1)
      simpa [h1, h2] using this
    · intro h j _; rw [h]
  rw [← eqE_iff, run_equalIn_struct w 9999 33 _ _ (by simp only [Program.fieldsOf, Tryd.underlying33]) (by kernel_rfl)]
  simp only [Program.fieldsOf, Tryd.underlying33]
  unfold eqE
  simp only [← mi_beq]
  simp only [Op.eqFields, ne_eq, String.reduceEq, not_false_eq_true, ↓reduceIte, Sem.run_bind, p, q, r, s, t, u, v, l, e0, e8, e1, e2, Result.andThen_ok, run_ite', Bool.not_eq_true']
  generalize (a.he == b.he) = x1
  generalize (a.di == b.di) = x2
  generalize (a.l == b.l) = x3
  generalize (a.ow == b.ow) = x4
  generalize (mi a.sh == mi b.sh) = x5
  generalize (a.bu == b.bu) = x6
  generalize (a.by_ == b.by_) = x7
  generalize (mi a.wa == mi b.wa) = x8
  clear p q r s t u v l e0 e8 e1 e2
  cases x1
  · simp
  cases x2
  · simp
  cases x3
  · simp
  cases x4
  · simp
  cases x5
  · simp
  cases x6
  · simp
  cases x7
  · simp
  cases x8 <;> simp
end Go.Proofs.YtkaabiiedfkaaaaDoor
