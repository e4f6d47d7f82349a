/- DirEnds: walked. No condition. -/
import Derived.Test.YtkaabiiedfkaaaaDoorDirp
import Derived.Test.YtkaabiiedfkaaaaDoorDirq
import Derived.Test.YtkaabiiedfkaaaaDoorDiru
import Derived.BigQuiet
import Derived.Deep.RegionHeld3
namespace Go.Proofs.YtkaabiiedfkaaaaDoor
open Go.RowKit
set_option linter.unusedVariables false
set_option maxHeartbeats 1000000
attribute [local go_sem ↓] append_appS copy_copS clear_clrS make_mkS slice_slS cell_row frozen_row loadLine storeLine loadMsg storeMsg heap_drew heap_drewN heap_alloc heap_past heap_setCell heap_putRow vs_get msc_kd msc_li msc_di msc_ke
attribute [local go_sem] rowCell_some rowFrozen_some rowHas_some rowIn_some rowPart_full rowPart_lit rowPut_full rowPut_lit rowSet_some size_putRow vs_size vs_one wideLine wideMsg run_loadS run_storeS run_appS run_copS run_clrS run_mkS run_slS loadW_at storeW_at fit_all fit_le one_int one_bool one_pointer one_slice allOne_list putRow_new ne_size1 ne_size2 ne_size3 ne_size4 zero8_length line_eq lit8 msc_size msc_one msc_part msc_in fold_msc
attribute [local simp ↓] heap_drew heap_drewN heap_alloc heap_past heap_setCell heap_putRow
attribute [local simp] rowCell_some rowFrozen_some rowHas_some rowIn_some rowPart_full rowPart_lit rowPut_full rowPut_lit rowSet_some size_putRow vs_size fit_all putRow_new ne_size1 ne_size2 ne_size3 ne_size4 zero8_length msc_size
attribute [local go_sem ↓] ec_he ec_di ec_ow ec_sh ec_bu ec_by ec_wa sc_to
attribute [local go_sem] mi_and mi_or mi_not mi_beq0 mi_bne0 ec_size ec_one ec_part ec_in ec_has ec_setDi ec_setOw ec_setSh ec_setBu ec_setBy ec_setWa ec_setSh0 ec_setWa0 ec_putM sc_size sc_one sc_part sc_in
attribute [local simp] ec_size sc_size ec_setDi ec_setOw ec_setSh ec_setBu ec_setBy ec_setWa ec_setSh0 ec_setWa0 ec_putM
attribute [local go_sem ↓] loadEn storeEn loadSd storeSd en_z0
attribute [local go_sem] wideEn wideSd fold_sc size11 putRow_newB putRow_newC ms5_lit
attribute [local simp] en_z0 putRow_newB putRow_newC fit_le ec_has
attribute [local go_sem ↓] loadEnR storeEnR loadSdR storeSdR
attribute [local go_sem] wideEnR wideSdR
attribute [local go_sem] ec_setHe ec_foldL


theorem wideWy : Wide Tryd.prog 50 13 := ⟨⟨_, Tryd.underlying50, by rfl⟩, by kernel_rfl⟩
theorem loadWy (x : Value) : Instr.loadAt 50 x = loadS 50 13 x := rfl
theorem storeWy (x y : Value) : Instr.storeAt 50 x y = storeS 50 13 x y := rfl
/-- A request, and whether answers come the last one first. -/
def wyc (m : Ms) (b : Bool) : Array Value := (Ms.enc m ++ [Value.bool b]).toArray
theorem wyc_size (m : Ms) (b : Bool) : (wyc m b).size = 13 := by simp [wyc, Ms.len]
theorem wyc_one (m : Ms) (b : Bool) : allOne (wyc m b) := allOne_list _ (by
  rw [List.all_append, Bool.and_eq_true]
  exact ⟨List.all_eq_true.2 (Ms.one m), rfl⟩)
theorem wyc_m (m : Ms) (b : Bool) (t : TypeId) (f : Nat × Nat) : rowPart (some (.cells (wyc m b) t f)) 0 12 = msc m := by
  rw [rowPart_some]; simp [wyc, msc, Ms.len]
theorem wyc_in (m : Ms) (b : Bool) (t : TypeId) (f : Nat × Nat) : rowIn (some (.cells (wyc m b) t f)) 0 12 = true := by
  rw [rowIn_some, wyc_size]; exact decide_eq_true (show 0 + 12 ≤ 13 by omega)
theorem wyc_b (m : Ms) (b : Bool) : (wyc m b)[12]? = some (.bool b) := by
  unfold wyc
  rw [List.getElem?_toArray, List.getElem?_append_right (by rw [Ms.len]; omega), Ms.len]; rfl
attribute [local go_sem ↓] loadWy storeWy wyc_b
attribute [local go_sem] wideWy wyc_size wyc_one wyc_m wyc_in
attribute [local simp] wyc_size

theorem sh_all {x y : En} {c : Int} {o : Mk} {ord : List Int} (h : Way7 x o 5 c false ord y) (ho : o = holders x) (hO : Ord o ord) : y.sh = 0#8 := by
  subst ho
  apply mk_ext; intro k hk
  rw [h.sh k hk, has_zero]
  simp only [Bool.false_eq_true, if_false]
  cases hh : hasM x.sh k
  · rfl
  · have h1 : hasM (holders x) k = true := (has_holders x hk).2 (.inl hh)
    have h2 := (hO.all (k : Int)).2 h1
    simp [h2]
theorem danswer_at (x : En) (c : Int) (m : Ms) (r : (En × List Sd) × Int) (h : ansE x c m = r) (w : World) (ht : Tab w) : Calls Tryd.prog 21 #[.agg (ec x), .int .i64 c, .agg (msc m)] w (En3 w r) := h ▸ danswer_any x c m w ht

set_option maxHeartbeats 8000000 in
set_option maxRecDepth 100000 in
theorem dends_13f (x : En) (c : Int) (m : Ms) (w : World) (ht : Tab w) (h0 : ((askE x c m).2 != 0) = false) (tb : ((askE x c m).1.1.bu == 0) = false) (hhe : x.he = true) (hgp : Gp x) (hcc : isC c = true) (hli : lineB m.li = true) (o : Mk) (hask : askE x c m = (waitE x c m o 13, 0)) (hho : ∀ k : Nat, k < 8 → hasM o k = true → hasM x.sh k = true ∨ x.ow = (k : Int)) (hkd : (m.kd = 1 ∧ o ≠ 0#8) ∨ (m.kd = 4 ∧ o = bitM x.ow)) (hbit : (bitM c == 0#8) = false) : Calls Tryd.prog 6 #[.agg (ec x), .int .i64 c, .agg (wyc m false)] w fun e w' => e = .returned (.bool true) ∧ Chg [] w w' := by
  have HT := Lib.hid ht
  have HK := Lib.hid hkd
  clear ht hkd
  go_enter Tryd.func6, Tryd.ntmps6
  try dsimp only [List.append]
  go_wp2_with fail
  refine gen_world2 (w := w) (b1 := w.heap.size) (x1 := .cells (ec (x)) 26 (0, 0)) (b2 := w.heap.size + 1) (x2 := .cells (wyc m false) 50 (0, 0)) (by (repeat' (first | with_reducible exact Chg.refl _ _ | with_reducible assumption | with_reducible refine Chg.drew ?_ | with_reducible refine Chg.drewN ?_ _ | with_reducible refine Chg.alloc ?_ _ | with_reducible refine Chg.putRow ?_ _ _ _ (.inr ?_) | with_reducible refine Chg.setCell ?_ _ _ _ (.inr ?_)  | (show _ ≤ _; first | exact Nat.le_refl _ | omega | (simp; done))))) (by simp [*]) (by simp [*]) fun w1 C1 rE rW => ?_
  have oE := old rE
  have oW := old rW
  have HC1 := Lib.hid C1
  clear C1
  go_region_held3 (fun w' => w'.heap[w.heap.size + 1]? = some (.cells (wyc m false) 50 (0, 0))) (first | exact rW | (simp [*]; done)) (fail)
  all_goals
    go_wp2_with fail
    refine gen_calls3 (w := w) (b1 := w.heap.size) (x1 := .cells (ec (x)) 26 (0, 0)) (b2 := w.heap.size + 1) (x2 := .cells (wyc m false) 50 (0, 0)) (b3 := w1.heap.size) (x3 := .cells (msc m) 28 (0, 0)) (by have := HC1.out; have hz := HC1.out.size; (repeat' (first | with_reducible exact Chg.refl _ _ | with_reducible assumption | with_reducible refine Chg.drew ?_ | with_reducible refine Chg.drewN ?_ _ | with_reducible refine Chg.alloc ?_ _ | with_reducible refine Chg.putRow ?_ _ _ _ (.inr ?_) | with_reducible refine Chg.setCell ?_ _ _ _ (.inr ?_)  | (show _ ≤ _; first | exact Nat.le_refl _ | omega | (simp; done))))) (by simp [*]) (by simp [*]) (by simp [*]) fun w2 C2' rE2 rW2 rM => ?_
    have C2 := Lib.hid C2'
    clear C2' HC1 rE rW oE oW
    generalize w1.heap.size = pM at rM ⊢
    have hc := dask_any x c m w2 (HT.out.keep C2.out (by simp))
    refine hc.mono ?_
    clear hc
    rintro e w4 ⟨A, n1, rfl, hs, _, c4⟩
    have rM4 := c4.keep rM (by simp)
    have C4 := Lib.hid (C2.out.trans c4)
    have AP := Lib.hid hs.apart
    have SS := Lib.hid hs
    clear hs c4 C2 rM rE2 rW2
    have oM := old rM4
    rw [hask] at SS AP ⊢
    have HPA := Lib.hid (show w.heap.size ≤ w4.heap.size from C4.out.size)
    have HMA := Lib.hid (show pM ≠ w4.heap.size from Nat.ne_of_lt oM.lt)
    have v1 : (waitE x c m o 13).1.bu = m.kd := rfl
    have v3 : (waitE x c m o 13).1.wa = o := rfl
    have v4 : (m.kd == 0) = false := by rcases HK.out with ⟨h, _⟩ | ⟨h, _⟩ <;> rw [h] <;> rfl
    have hlen := tell_length o (ms4 13 m.li false false)
    have h8 : (coresL o).length ≤ 8 := coresTo_len _ 8
    have I0 := Lib.hid (show Inv7 x o m.kd c m.li true (coresL o) 0 (waitE x c m o 13).1 from Inv7.start hhe hgp c hcc m o 13 (by simp) true (coresL o) (cores_ord o) hho (by rcases HK.out with ⟨h, h2⟩ | ⟨h, _⟩ <;> simp [h] <;> exact h2))
    go_wp2_with (go_at_call 26; refine (rbit_any _ _).mono ?_; rintro e w' ⟨rfl, rfl⟩; (try rw [hbit]))
    refine gen_calls2 (w := w4) (b1 := pM) (x1 := .cells (msc m) 28 (0, 0)) (b2 := w4.heap.size) (x2 := .cells (ec ((waitE x c m o 13).1)) 26 (0, 0)) (by (repeat' (first | with_reducible exact Chg.refl _ _ | with_reducible assumption | with_reducible refine Chg.drew ?_ | with_reducible refine Chg.drewN ?_ _ | with_reducible refine Chg.alloc ?_ _ | with_reducible refine Chg.putRow ?_ _ _ _ (.inr ?_) | with_reducible refine Chg.setCell ?_ _ _ _ (.inr ?_)  | (show _ ≤ _; first | exact Nat.le_refl _ | omega | (simp; done))))) (by simp [*]) (by simp) fun w5 cA rM5 rA5 => ?_
    have S5 := Lib.hid (SS.out.chg cA (by simp))
    have C5 := Lib.hid (C4.out.trans cA)
    clear cA SS C4 rM4 oM
    generalize w4.heap.size = pA at rA5 AP HPA HMA ⊢
    refine (rcores_any o w5 (HT.out.keep C5.out (by simp)).old).mono ?_
    rintro e w6 ⟨B, cB, rfl, hsB, _, c6⟩
    have rM := c6.keep rM5 (by simp)
    have rA := c6.keep rA5 (by simp)
    have S6 := S5.out.chg c6 (by simp)
    have C6 := Lib.hid (C5.out.trans c6)
    clear hsB c6 rM5 rA5 S5 C5
    have oM := old rM
    have oA := old rA
    have SS' := Lib.hid (show Sl w6 13 A (coresL o).length (cat Sd.enc (tellL o (ms4 13 m.li false false))) by rw [← hlen]; exact S6)
    have AP' := Lib.hid (show (coresL o).length = 0 ∨ ∀ a, A = some a → a.block ≠ pA by rw [← hlen]; exact AP.out)
    rw [show (waitE x c m o 13).2.length = (coresL o).length from hlen]
    clear S6 AP hlen hask tb
    generalize (waitE x c m o 13).1 = a0 at rA I0 v1 v3 ⊢
    obtain ⟨N, hN⟩ : ∃ N, N = (coresL o).length := ⟨_, rfl⟩
    rw [← hN] at h8 ⊢
    have HN := Lib.hid hN
    clear hN
    have tn : ((N : Int) != (N : Int)) = false := by simp
    go_wp2_with fail
    go_loopw [13] (fun i wr => ∃ (j : Nat) (y : En), j ≤ N ∧ i = .int .i64 j ∧ Chg [] w wr ∧ wr.heap[pM]? = some (.cells (msc m) 28 (0, 0)) ∧ wr.heap[pA]? = some (.cells (ec (y)) 26 (0, 0)) ∧ Sl wr 13 A N (cat Sd.enc (tellL o (ms4 13 m.li false false))) ∧ Inv7 x o m.kd c m.li true (coresL o) j y) (fun i _ => N - (intOf i).toNat)
    case atStart => exact ⟨0, a0, by omega, rfl, C6.out, rM, rA, by rw [HN.out]; exact SS'.out, I0.out⟩
    case round =>
      obtain ⟨j, y, hj, rfl, hc, rMr, rAr, hsl, hinv⟩ := hrel
      have HC := Lib.hid hc
      have HI := Lib.hid hinv
      have HSL := Lib.hid hsl
      clear hc hinv hsl
      have g0 : (0 : Int) ≤ (j : Int) := by omega
      have gN : (N : Int) ≤ 8 := by omega
      by_cases hlt : j < N
      · have hlo : (coresL o).length = N := by exact HN.out.symm
        obtain ⟨d, hd⟩ : ∃ d, (coresL o)[j]? = some d := ⟨(coresL o)[j]'(by rw [hlo]; exact hlt), List.getElem?_eq_getElem _⟩
        obtain ⟨y', ss', hans, hinv', hmore, hno⟩ := HI.out.step (cores_ord o) (by rw [hlo]; exact hlt) (ms4 7 m.li false true) (am_dn m.li hli) hd
        obtain ⟨zz, tz, n2c, hn2, hans2⟩ : ∃ (e : En) (t : List Sd) (n : Int), (n == 0) = false ∧ ansE y' d (ms4 7 m.li false true) = ((e, t), n) := by
          rcases ansE_again (am := (ms4 7 m.li false true)) hno with h | h
          · exact ⟨_, _, 1, rfl, h⟩
          · exact ⟨_, _, 16, rfl, h⟩
        rw [hlo] at hmore
        have HI' := Lib.hid hinv'
        have HM' := Lib.hid hmore
        have hqd : (coresL o)[j]? = some d := hd
        obtain ⟨b, off, cs, tt, ff, rfl, hb, i0, i1, _, _⟩ := HSL.out.sd (tell_at (m := ms4 13 m.li false false) hqd)
        have g1' : (j : Int) < (N : Int) := by omega
        have oMr := old rMr
        have oAr := old rAr
        have obr := old hb
        have i1' : cs[off + j * 13 + 1]? = some (.int .i64 13) := i1
        clear hinv' hmore hno hd hqd i1
        go_wp2_with fail
        obtain ⟨am, ham⟩ : ∃ z, z = (ms4 7 m.li false true) := ⟨_, rfl⟩
        rw [← ham] at hans hans2
        refine gen_world3 (w := wr) (b1 := pA) (x1 := .cells (ec (y)) 26 (0, 0)) (b2 := b) (x2 := .cells cs tt ff) (b3 := wr.heap.size) (x3 := .cells (msc am) 28 (0, 0)) (by (repeat' (first | with_reducible exact Chg.refl _ _ | with_reducible assumption | with_reducible refine Chg.drew ?_ | with_reducible refine Chg.drewN ?_ _ | with_reducible refine Chg.alloc ?_ _ | with_reducible refine Chg.putRow ?_ _ _ _ (.inr ?_) | with_reducible refine Chg.setCell ?_ _ _ _ (.inr ?_)  | (show _ ≤ _; first | exact Nat.le_refl _ | omega | (simp; done))))) (by simp [*]) (by simp [*]) (by rw [ham, ← ms4_lit]; simp) fun wk cK rAk hbk rKk => ?_
        have rMk := Lib.hid (cK.keep rMr (by simp))
        have slk := Lib.hid (HSL.out.chg cK (by simp))
        have HCk := Lib.hid (HC.out.trans cK)
        have TRk := HT.out.keep HCk.out (by simp)
        clear cK HC HSL HI rMr rAr hb oMr oAr obr ham
        generalize wr.heap.size = pK at rKk ⊢
        have orAk := old rAk
        have ohbk := old hbk
        have orKk := old rKk
        go_region_held3 (fun w' => w'.heap[pA]? = some (.cells (ec (y)) 26 (0, 0)) ∧ w'.heap[b]? = some (.cells cs tt ff) ∧ w'.heap[pK]? = some (.cells (msc am) 28 (0, 0))) (first | exact ⟨rAk, hbk, rKk⟩ | exact ⟨kA (by (first | exact rAk | (simp [rAk]; done))), kb (by (first | exact hbk | (simp [hbk]; done))), kK (by (first | exact rKk | (simp [rKk]; done)))⟩ | (have kA' := kA (by (first | exact rAk | (simp [rAk]; done))); have kb' := kb (by (first | exact hbk | (simp [hbk]; done))); have kK' := kK (by (first | exact rKk | (simp [rKk]; done))); have oA' := old kA'; have ob' := old kb'; have oK' := old kK'; simp [kA', kb', kK']; done) | (exact ⟨(Chg.keep ((Chg.refl [wk.heap.size] w').putRow wk.heap.size 0 _ (.inl (by simp))) (kA (by (first | exact rAk | (simp [rAk]; done)))) (by have := orAk.lt; simp; omega)), (Chg.keep ((Chg.refl [wk.heap.size] w').putRow wk.heap.size 0 _ (.inl (by simp))) (kb (by (first | exact hbk | (simp [hbk]; done)))) (by have := ohbk.lt; simp; omega)), (Chg.keep ((Chg.refl [wk.heap.size] w').putRow wk.heap.size 0 _ (.inl (by simp))) (kK (by (first | exact rKk | (simp [rKk]; done)))) (by have := orKk.lt; simp; omega))⟩) | (simp [rAk, hbk, rKk]; done))
          ((go_at_call 21; refine (danswer_at _ _ _ _ hans _ ?_).mono ?_; exact (by first | exact TRk | exact TRk.keep ((Chg.refl [] _).alloc _) (by simp) | exact (TRk.keep (Chg.refl [] _).drew (by simp)) | exact (TRk.keep ((Chg.refl [] _).drew.alloc _) (by simp))); rintro e w' ⟨A2, n2, rfl, hs2, _, c2⟩; (have rB2 := fun h => c2.keep (x := .cells (ec (enZ)) 26 (0, 0)) (k := wk.heap.size) h (by simp)); (have kA := fun h => c2.keep (x := .cells (ec (y)) 26 (0, 0)) (k := pA) h (by simp)); (have kb := fun h => c2.keep (x := .cells cs tt ff) (k := b) h (by simp)); (have kK := fun h => c2.keep (x := .cells (msc am) 28 (0, 0)) (k := pK) h (by simp))))
        · skip
          refine gen_exit (w := wk) (b := w'.heap.size) (x := .cells (ec (y')) 26 (0, 0)) (by (repeat' (first | with_reducible exact Chg.refl _ _ | with_reducible assumption | with_reducible refine Chg.drew ?_ | with_reducible refine Chg.drewN ?_ _ | with_reducible refine Chg.alloc ?_ _ | with_reducible refine Chg.putRow ?_ _ _ _ (.inr ?_) | with_reducible refine Chg.setCell ?_ _ _ _ (.inr ?_)  | with_reducible refine Chg.trans ?_ c2 | with_reducible refine Chg.trans (b := World.drew _) ?_ c2 | (show _ ≤ _; first | exact Nat.le_refl _ | omega | (simp; done))))) (by first | (simp; done) | (simp [rB2 (by simp)]; done)) fun wq cW rBq => ?_
          generalize w'.heap.size = pB at rBq ⊢
          have rMq := Lib.hid (cW.keep rMk.out (by simp))
          have rAq := cW.keep rAk (by simp)
          have hbq := cW.keep hbk (by simp)
          have rKq := cW.keep rKk (by simp)
          have slq := Lib.hid (slk.out.chg cW (by simp))
          have HCq := Lib.hid (HCk.out.trans cW)
          clear c2 rB2 kA kb kK cW rAk hbk rKk HCk slk TRk rMk orAk ohbk orKk
          have orAq := old rAq
          have orBq := old rBq
          have ohbq := old hbq
          have orKq := old rKq
          by_cases hm : j + 1 < N
          · obtain ⟨rfl, e2⟩ := HM'.out hm
            have hm1 : (j : Int) + 1 < (N : Int) := by omega
            clear HM' hs2
            go_wp2_with fail
            have TRk := HT.out.keep HCq.out (by simp)
            go_region_held3 (fun w' => w'.heap[pB]? = some (.cells (ec (y')) 26 (0, 0)) ∧ w'.heap[b]? = some (.cells cs tt ff) ∧ w'.heap[pK]? = some (.cells (msc am) 28 (0, 0))) (first | exact ⟨rBq, hbq, rKq⟩ | exact ⟨kA (by (first | exact rBq | (simp [rBq]; done))), kb (by (first | exact hbq | (simp [hbq]; done))), kK (by (first | exact rKq | (simp [rKq]; done)))⟩ | (have kA' := kA (by (first | exact rBq | (simp [rBq]; done))); have kb' := kb (by (first | exact hbq | (simp [hbq]; done))); have kK' := kK (by (first | exact rKq | (simp [rKq]; done))); have oA' := old kA'; have ob' := old kb'; have oK' := old kK'; simp [kA', kb', kK']; done) | (exact ⟨(Chg.keep ((Chg.refl [wq.heap.size] w').putRow wq.heap.size 0 _ (.inl (by simp))) (kA (by (first | exact rBq | (simp [rBq]; done)))) (by have := orBq.lt; simp; omega)), (Chg.keep ((Chg.refl [wq.heap.size] w').putRow wq.heap.size 0 _ (.inl (by simp))) (kb (by (first | exact hbq | (simp [hbq]; done)))) (by have := ohbq.lt; simp; omega)), (Chg.keep ((Chg.refl [wq.heap.size] w').putRow wq.heap.size 0 _ (.inl (by simp))) (kK (by (first | exact rKq | (simp [rKq]; done)))) (by have := orKq.lt; simp; omega))⟩) | (simp [rBq, hbq, rKq]; done))
              ((go_at_call 21; refine (danswer_at _ _ _ _ hans2 _ ?_).mono ?_; exact (by first | exact TRk | exact TRk.keep ((Chg.refl [] _).alloc _) (by simp) | exact (TRk.keep (Chg.refl [] _).drew (by simp)) | exact (TRk.keep ((Chg.refl [] _).drew.alloc _) (by simp))); rintro e w' ⟨A3, n3, rfl, hs3, _, c3⟩; (have rB2 := fun h => c3.keep (x := .cells (ec (enZ)) 26 (0, 0)) (k := wq.heap.size) h (by simp)); (have kA := fun h => c3.keep (x := .cells (ec (y')) 26 (0, 0)) (k := pB) h (by simp)); (have kb := fun h => c3.keep (x := .cells cs tt ff) (k := b) h (by simp)); (have kK := fun h => c3.keep (x := .cells (msc am) 28 (0, 0)) (k := pK) h (by simp))))
            · skip
              refine gen_exit (w := wq) (b := pB) (x := .cells (ec (y')) 26 (0, 0)) (by (repeat' (first | with_reducible exact Chg.refl _ _ | with_reducible assumption | with_reducible refine Chg.drew ?_ | with_reducible refine Chg.drewN ?_ _ | with_reducible refine Chg.alloc ?_ _ | with_reducible refine Chg.putRow ?_ _ _ _ (.inr ?_) | with_reducible refine Chg.setCell ?_ _ _ _ (.inr ?_)  | with_reducible refine Chg.trans ?_ c3 | with_reducible refine Chg.trans (b := World.drew _) ?_ c3 | (show _ ≤ _; first | exact Nat.le_refl _ | omega | (simp; done))))) (by have kA' := kA (by first | exact rBq | (simp [rBq]; done)); have oA' := old kA'; simp [kA']) fun wz cZ rBz => ?_
              have rMz := Lib.hid (cZ.keep rMq.out (by simp))
              have rAz := cZ.keep rAq (by simp)
              have slz := Lib.hid (slq.out.chg cZ (by simp))
              have HCz := Lib.hid (HCq.out.trans cZ)
              clear c3 rB2 kA kb kK cZ rAq rBq hbq rKq HCq slq TRk rMq orAq orBq ohbq orKq
              have oAz := old rAz
              have oBz := old rBz
              go_wp2_with fail
              go_roundw
              case rel => exact ⟨j + 1, y', by omega, by go_num, HCz.out.putRow pA 0 _ (.inr HPA.out), ((Chg.refl [pA] wz).putRow pA 0 _ (.inl (by simp))).keep rMz.out (by simpa using HMA.out), by simp [rAz], slz.out.chg0 ((Chg.refl [pA] wz).putRow pA 0 _ (.inl (by simp))) (by rw [HN.out]; exact AP'.out), HI'.out⟩
              case measure => simp [intOf]; omega
            · skip
              refine gen_exit (w := wq) (b := pB) (x := .cells (ec (y')) 26 (0, 0)) (by (repeat' (first | with_reducible exact Chg.refl _ _ | with_reducible assumption | with_reducible refine Chg.drew ?_ | with_reducible refine Chg.drewN ?_ _ | with_reducible refine Chg.alloc ?_ _ | with_reducible refine Chg.putRow ?_ _ _ _ (.inr ?_) | with_reducible refine Chg.setCell ?_ _ _ _ (.inr ?_)  | with_reducible refine Chg.trans ?_ c3 | with_reducible refine Chg.trans (b := World.drew _) ?_ c3 | (show _ ≤ _; first | exact Nat.le_refl _ | omega | (simp; done))))) (Chg.keep ((Chg.refl [wq.heap.size] w').putRow wq.heap.size 0 _ (.inl (by simp))) (kA (by first | exact rBq | (simp [rBq]; done))) (by have := orBq.lt; simp; omega)) fun wz cZ rBz => ?_
              have rMz := Lib.hid (cZ.keep rMq.out (by simp))
              have rAz := cZ.keep rAq (by simp)
              have slz := Lib.hid (slq.out.chg cZ (by simp))
              have HCz := Lib.hid (HCq.out.trans cZ)
              clear c3 rB2 kA kb kK cZ rAq rBq hbq rKq HCq slq TRk rMq orAq orBq ohbq orKq
              have oAz := old rAz
              have oBz := old rBz
              go_wp2_with fail
              go_roundw
              case rel => exact ⟨j + 1, y', by omega, by go_num, HCz.out.putRow pA 0 _ (.inr HPA.out), ((Chg.refl [pA] wz).putRow pA 0 _ (.inl (by simp))).keep rMz.out (by simpa using HMA.out), by simp [rAz], slz.out.chg0 ((Chg.refl [pA] wz).putRow pA 0 _ (.inl (by simp))) (by rw [HN.out]; exact AP'.out), HI'.out⟩
              case measure => simp [intOf]; omega
          · have hm1 : ¬ ((j : Int) + 1 < (N : Int)) := by omega
            clear HM' hs2
            go_wp2_with fail
            have TRk := HT.out.keep HCq.out (by simp)
            go_region_held3 (fun w' => w'.heap[pB]? = some (.cells (ec (y')) 26 (0, 0)) ∧ w'.heap[b]? = some (.cells cs tt ff) ∧ w'.heap[pK]? = some (.cells (msc am) 28 (0, 0))) (first | exact ⟨rBq, hbq, rKq⟩ | exact ⟨kA (by (first | exact rBq | (simp [rBq]; done))), kb (by (first | exact hbq | (simp [hbq]; done))), kK (by (first | exact rKq | (simp [rKq]; done)))⟩ | (have kA' := kA (by (first | exact rBq | (simp [rBq]; done))); have kb' := kb (by (first | exact hbq | (simp [hbq]; done))); have kK' := kK (by (first | exact rKq | (simp [rKq]; done))); have oA' := old kA'; have ob' := old kb'; have oK' := old kK'; simp [kA', kb', kK']; done) | (exact ⟨(Chg.keep ((Chg.refl [wq.heap.size] w').putRow wq.heap.size 0 _ (.inl (by simp))) (kA (by (first | exact rBq | (simp [rBq]; done)))) (by have := orBq.lt; simp; omega)), (Chg.keep ((Chg.refl [wq.heap.size] w').putRow wq.heap.size 0 _ (.inl (by simp))) (kb (by (first | exact hbq | (simp [hbq]; done)))) (by have := ohbq.lt; simp; omega)), (Chg.keep ((Chg.refl [wq.heap.size] w').putRow wq.heap.size 0 _ (.inl (by simp))) (kK (by (first | exact rKq | (simp [rKq]; done)))) (by have := orKq.lt; simp; omega))⟩) | (simp [rBq, hbq, rKq]; done))
              ((go_at_call 21; refine (danswer_at _ _ _ _ hans2 _ ?_).mono ?_; exact (by first | exact TRk | exact TRk.keep ((Chg.refl [] _).alloc _) (by simp) | exact (TRk.keep (Chg.refl [] _).drew (by simp)) | exact (TRk.keep ((Chg.refl [] _).drew.alloc _) (by simp))); rintro e w' ⟨A3, n3, rfl, hs3, _, c3⟩; (have rB2 := fun h => c3.keep (x := .cells (ec (enZ)) 26 (0, 0)) (k := wq.heap.size) h (by simp)); (have kA := fun h => c3.keep (x := .cells (ec (y')) 26 (0, 0)) (k := pB) h (by simp)); (have kb := fun h => c3.keep (x := .cells cs tt ff) (k := b) h (by simp)); (have kK := fun h => c3.keep (x := .cells (msc am) 28 (0, 0)) (k := pK) h (by simp))))
            · skip
              refine gen_exit (w := wq) (b := pB) (x := .cells (ec (y')) 26 (0, 0)) (by (repeat' (first | with_reducible exact Chg.refl _ _ | with_reducible assumption | with_reducible refine Chg.drew ?_ | with_reducible refine Chg.drewN ?_ _ | with_reducible refine Chg.alloc ?_ _ | with_reducible refine Chg.putRow ?_ _ _ _ (.inr ?_) | with_reducible refine Chg.setCell ?_ _ _ _ (.inr ?_)  | with_reducible refine Chg.trans ?_ c3 | with_reducible refine Chg.trans (b := World.drew _) ?_ c3 | (show _ ≤ _; first | exact Nat.le_refl _ | omega | (simp; done))))) (by have kA' := kA (by first | exact rBq | (simp [rBq]; done)); have oA' := old kA'; simp [kA']) fun wz cZ rBz => ?_
              have rMz := Lib.hid (cZ.keep rMq.out (by simp))
              have rAz := cZ.keep rAq (by simp)
              have slz := Lib.hid (slq.out.chg cZ (by simp))
              have HCz := Lib.hid (HCq.out.trans cZ)
              clear c3 rB2 kA kb kK cZ rAq rBq hbq rKq HCq slq TRk rMq orAq orBq ohbq orKq
              have oAz := old rAz
              have oBz := old rBz
              go_wp2_with fail
              go_roundw
              case rel => exact ⟨j + 1, y', by omega, by go_num, HCz.out.putRow pA 0 _ (.inr HPA.out), ((Chg.refl [pA] wz).putRow pA 0 _ (.inl (by simp))).keep rMz.out (by simpa using HMA.out), by simp [rAz], slz.out.chg0 ((Chg.refl [pA] wz).putRow pA 0 _ (.inl (by simp))) (by rw [HN.out]; exact AP'.out), HI'.out⟩
              case measure => simp [intOf]; omega
            · skip
              refine gen_exit (w := wq) (b := pB) (x := .cells (ec (y')) 26 (0, 0)) (by (repeat' (first | with_reducible exact Chg.refl _ _ | with_reducible assumption | with_reducible refine Chg.drew ?_ | with_reducible refine Chg.drewN ?_ _ | with_reducible refine Chg.alloc ?_ _ | with_reducible refine Chg.putRow ?_ _ _ _ (.inr ?_) | with_reducible refine Chg.setCell ?_ _ _ _ (.inr ?_)  | with_reducible refine Chg.trans ?_ c3 | with_reducible refine Chg.trans (b := World.drew _) ?_ c3 | (show _ ≤ _; first | exact Nat.le_refl _ | omega | (simp; done))))) (Chg.keep ((Chg.refl [wq.heap.size] w').putRow wq.heap.size 0 _ (.inl (by simp))) (kA (by first | exact rBq | (simp [rBq]; done))) (by have := orBq.lt; simp; omega)) fun wz cZ rBz => ?_
              have rMz := Lib.hid (cZ.keep rMq.out (by simp))
              have rAz := cZ.keep rAq (by simp)
              have slz := Lib.hid (slq.out.chg cZ (by simp))
              have HCz := Lib.hid (HCq.out.trans cZ)
              clear c3 rB2 kA kb kK cZ rAq rBq hbq rKq HCq slq TRk rMq orAq orBq ohbq orKq
              have oAz := old rAz
              have oBz := old rBz
              go_wp2_with fail
              go_roundw
              case rel => exact ⟨j + 1, y', by omega, by go_num, HCz.out.putRow pA 0 _ (.inr HPA.out), ((Chg.refl [pA] wz).putRow pA 0 _ (.inl (by simp))).keep rMz.out (by simpa using HMA.out), by simp [rAz], slz.out.chg0 ((Chg.refl [pA] wz).putRow pA 0 _ (.inl (by simp))) (by rw [HN.out]; exact AP'.out), HI'.out⟩
              case measure => simp [intOf]; omega
        · skip
          refine gen_exit (w := wk) (b := wk.heap.size) (x := .cells (ec (y')) 26 (0, 0)) (by (repeat' (first | with_reducible exact Chg.refl _ _ | with_reducible assumption | with_reducible refine Chg.drew ?_ | with_reducible refine Chg.drewN ?_ _ | with_reducible refine Chg.alloc ?_ _ | with_reducible refine Chg.putRow ?_ _ _ _ (.inr ?_) | with_reducible refine Chg.setCell ?_ _ _ _ (.inr ?_)  | with_reducible refine Chg.trans ?_ c2 | with_reducible refine Chg.trans (b := World.drew _) ?_ c2 | (show _ ≤ _; first | exact Nat.le_refl _ | omega | (simp; done))))) (by first | (simp; done) | (simp [rB2 (by simp)]; done)) fun wq cW rBq => ?_
          generalize wk.heap.size = pB at rBq ⊢
          have rMq := Lib.hid (cW.keep rMk.out (by simp))
          have rAq := cW.keep rAk (by simp)
          have hbq := cW.keep hbk (by simp)
          have rKq := cW.keep rKk (by simp)
          have slq := Lib.hid (slk.out.chg cW (by simp))
          have HCq := Lib.hid (HCk.out.trans cW)
          clear c2 rB2 kA kb kK cW rAk hbk rKk HCk slk TRk rMk orAk ohbk orKk
          have orAq := old rAq
          have orBq := old rBq
          have ohbq := old hbq
          have orKq := old rKq
          by_cases hm : j + 1 < N
          · obtain ⟨rfl, e2⟩ := HM'.out hm
            have hm1 : (j : Int) + 1 < (N : Int) := by omega
            clear HM' hs2
            go_wp2_with fail
            have TRk := HT.out.keep HCq.out (by simp)
            go_region_held3 (fun w' => w'.heap[pB]? = some (.cells (ec (y')) 26 (0, 0)) ∧ w'.heap[b]? = some (.cells cs tt ff) ∧ w'.heap[pK]? = some (.cells (msc am) 28 (0, 0))) (first | exact ⟨rBq, hbq, rKq⟩ | exact ⟨kA (by (first | exact rBq | (simp [rBq]; done))), kb (by (first | exact hbq | (simp [hbq]; done))), kK (by (first | exact rKq | (simp [rKq]; done)))⟩ | (have kA' := kA (by (first | exact rBq | (simp [rBq]; done))); have kb' := kb (by (first | exact hbq | (simp [hbq]; done))); have kK' := kK (by (first | exact rKq | (simp [rKq]; done))); have oA' := old kA'; have ob' := old kb'; have oK' := old kK'; simp [kA', kb', kK']; done) | (exact ⟨(Chg.keep ((Chg.refl [wq.heap.size] w').putRow wq.heap.size 0 _ (.inl (by simp))) (kA (by (first | exact rBq | (simp [rBq]; done)))) (by have := orBq.lt; simp; omega)), (Chg.keep ((Chg.refl [wq.heap.size] w').putRow wq.heap.size 0 _ (.inl (by simp))) (kb (by (first | exact hbq | (simp [hbq]; done)))) (by have := ohbq.lt; simp; omega)), (Chg.keep ((Chg.refl [wq.heap.size] w').putRow wq.heap.size 0 _ (.inl (by simp))) (kK (by (first | exact rKq | (simp [rKq]; done)))) (by have := orKq.lt; simp; omega))⟩) | (simp [rBq, hbq, rKq]; done))
              ((go_at_call 21; refine (danswer_at _ _ _ _ hans2 _ ?_).mono ?_; exact (by first | exact TRk | exact TRk.keep ((Chg.refl [] _).alloc _) (by simp) | exact (TRk.keep (Chg.refl [] _).drew (by simp)) | exact (TRk.keep ((Chg.refl [] _).drew.alloc _) (by simp))); rintro e w' ⟨A3, n3, rfl, hs3, _, c3⟩; (have rB2 := fun h => c3.keep (x := .cells (ec (enZ)) 26 (0, 0)) (k := wq.heap.size) h (by simp)); (have kA := fun h => c3.keep (x := .cells (ec (y')) 26 (0, 0)) (k := pB) h (by simp)); (have kb := fun h => c3.keep (x := .cells cs tt ff) (k := b) h (by simp)); (have kK := fun h => c3.keep (x := .cells (msc am) 28 (0, 0)) (k := pK) h (by simp))))
            · skip
              refine gen_exit (w := wq) (b := pB) (x := .cells (ec (y')) 26 (0, 0)) (by (repeat' (first | with_reducible exact Chg.refl _ _ | with_reducible assumption | with_reducible refine Chg.drew ?_ | with_reducible refine Chg.drewN ?_ _ | with_reducible refine Chg.alloc ?_ _ | with_reducible refine Chg.putRow ?_ _ _ _ (.inr ?_) | with_reducible refine Chg.setCell ?_ _ _ _ (.inr ?_)  | with_reducible refine Chg.trans ?_ c3 | with_reducible refine Chg.trans (b := World.drew _) ?_ c3 | (show _ ≤ _; first | exact Nat.le_refl _ | omega | (simp; done))))) (by have kA' := kA (by first | exact rBq | (simp [rBq]; done)); have oA' := old kA'; simp [kA']) fun wz cZ rBz => ?_
              have rMz := Lib.hid (cZ.keep rMq.out (by simp))
              have rAz := cZ.keep rAq (by simp)
              have slz := Lib.hid (slq.out.chg cZ (by simp))
              have HCz := Lib.hid (HCq.out.trans cZ)
              clear c3 rB2 kA kb kK cZ rAq rBq hbq rKq HCq slq TRk rMq orAq orBq ohbq orKq
              have oAz := old rAz
              have oBz := old rBz
              go_wp2_with fail
              go_roundw
              case rel => exact ⟨j + 1, y', by omega, by go_num, HCz.out.putRow pA 0 _ (.inr HPA.out), ((Chg.refl [pA] wz).putRow pA 0 _ (.inl (by simp))).keep rMz.out (by simpa using HMA.out), by simp [rAz], slz.out.chg0 ((Chg.refl [pA] wz).putRow pA 0 _ (.inl (by simp))) (by rw [HN.out]; exact AP'.out), HI'.out⟩
              case measure => simp [intOf]; omega
            · skip
              refine gen_exit (w := wq) (b := pB) (x := .cells (ec (y')) 26 (0, 0)) (by (repeat' (first | with_reducible exact Chg.refl _ _ | with_reducible assumption | with_reducible refine Chg.drew ?_ | with_reducible refine Chg.drewN ?_ _ | with_reducible refine Chg.alloc ?_ _ | with_reducible refine Chg.putRow ?_ _ _ _ (.inr ?_) | with_reducible refine Chg.setCell ?_ _ _ _ (.inr ?_)  | with_reducible refine Chg.trans ?_ c3 | with_reducible refine Chg.trans (b := World.drew _) ?_ c3 | (show _ ≤ _; first | exact Nat.le_refl _ | omega | (simp; done))))) (Chg.keep ((Chg.refl [wq.heap.size] w').putRow wq.heap.size 0 _ (.inl (by simp))) (kA (by first | exact rBq | (simp [rBq]; done))) (by have := orBq.lt; simp; omega)) fun wz cZ rBz => ?_
              have rMz := Lib.hid (cZ.keep rMq.out (by simp))
              have rAz := cZ.keep rAq (by simp)
              have slz := Lib.hid (slq.out.chg cZ (by simp))
              have HCz := Lib.hid (HCq.out.trans cZ)
              clear c3 rB2 kA kb kK cZ rAq rBq hbq rKq HCq slq TRk rMq orAq orBq ohbq orKq
              have oAz := old rAz
              have oBz := old rBz
              go_wp2_with fail
              go_roundw
              case rel => exact ⟨j + 1, y', by omega, by go_num, HCz.out.putRow pA 0 _ (.inr HPA.out), ((Chg.refl [pA] wz).putRow pA 0 _ (.inl (by simp))).keep rMz.out (by simpa using HMA.out), by simp [rAz], slz.out.chg0 ((Chg.refl [pA] wz).putRow pA 0 _ (.inl (by simp))) (by rw [HN.out]; exact AP'.out), HI'.out⟩
              case measure => simp [intOf]; omega
          · have hm1 : ¬ ((j : Int) + 1 < (N : Int)) := by omega
            clear HM' hs2
            go_wp2_with fail
            have TRk := HT.out.keep HCq.out (by simp)
            go_region_held3 (fun w' => w'.heap[pB]? = some (.cells (ec (y')) 26 (0, 0)) ∧ w'.heap[b]? = some (.cells cs tt ff) ∧ w'.heap[pK]? = some (.cells (msc am) 28 (0, 0))) (first | exact ⟨rBq, hbq, rKq⟩ | exact ⟨kA (by (first | exact rBq | (simp [rBq]; done))), kb (by (first | exact hbq | (simp [hbq]; done))), kK (by (first | exact rKq | (simp [rKq]; done)))⟩ | (have kA' := kA (by (first | exact rBq | (simp [rBq]; done))); have kb' := kb (by (first | exact hbq | (simp [hbq]; done))); have kK' := kK (by (first | exact rKq | (simp [rKq]; done))); have oA' := old kA'; have ob' := old kb'; have oK' := old kK'; simp [kA', kb', kK']; done) | (exact ⟨(Chg.keep ((Chg.refl [wq.heap.size] w').putRow wq.heap.size 0 _ (.inl (by simp))) (kA (by (first | exact rBq | (simp [rBq]; done)))) (by have := orBq.lt; simp; omega)), (Chg.keep ((Chg.refl [wq.heap.size] w').putRow wq.heap.size 0 _ (.inl (by simp))) (kb (by (first | exact hbq | (simp [hbq]; done)))) (by have := ohbq.lt; simp; omega)), (Chg.keep ((Chg.refl [wq.heap.size] w').putRow wq.heap.size 0 _ (.inl (by simp))) (kK (by (first | exact rKq | (simp [rKq]; done)))) (by have := orKq.lt; simp; omega))⟩) | (simp [rBq, hbq, rKq]; done))
              ((go_at_call 21; refine (danswer_at _ _ _ _ hans2 _ ?_).mono ?_; exact (by first | exact TRk | exact TRk.keep ((Chg.refl [] _).alloc _) (by simp) | exact (TRk.keep (Chg.refl [] _).drew (by simp)) | exact (TRk.keep ((Chg.refl [] _).drew.alloc _) (by simp))); rintro e w' ⟨A3, n3, rfl, hs3, _, c3⟩; (have rB2 := fun h => c3.keep (x := .cells (ec (enZ)) 26 (0, 0)) (k := wq.heap.size) h (by simp)); (have kA := fun h => c3.keep (x := .cells (ec (y')) 26 (0, 0)) (k := pB) h (by simp)); (have kb := fun h => c3.keep (x := .cells cs tt ff) (k := b) h (by simp)); (have kK := fun h => c3.keep (x := .cells (msc am) 28 (0, 0)) (k := pK) h (by simp))))
            · skip
              refine gen_exit (w := wq) (b := pB) (x := .cells (ec (y')) 26 (0, 0)) (by (repeat' (first | with_reducible exact Chg.refl _ _ | with_reducible assumption | with_reducible refine Chg.drew ?_ | with_reducible refine Chg.drewN ?_ _ | with_reducible refine Chg.alloc ?_ _ | with_reducible refine Chg.putRow ?_ _ _ _ (.inr ?_) | with_reducible refine Chg.setCell ?_ _ _ _ (.inr ?_)  | with_reducible refine Chg.trans ?_ c3 | with_reducible refine Chg.trans (b := World.drew _) ?_ c3 | (show _ ≤ _; first | exact Nat.le_refl _ | omega | (simp; done))))) (by have kA' := kA (by first | exact rBq | (simp [rBq]; done)); have oA' := old kA'; simp [kA']) fun wz cZ rBz => ?_
              have rMz := Lib.hid (cZ.keep rMq.out (by simp))
              have rAz := cZ.keep rAq (by simp)
              have slz := Lib.hid (slq.out.chg cZ (by simp))
              have HCz := Lib.hid (HCq.out.trans cZ)
              clear c3 rB2 kA kb kK cZ rAq rBq hbq rKq HCq slq TRk rMq orAq orBq ohbq orKq
              have oAz := old rAz
              have oBz := old rBz
              go_wp2_with fail
              go_roundw
              case rel => exact ⟨j + 1, y', by omega, by go_num, HCz.out.putRow pA 0 _ (.inr HPA.out), ((Chg.refl [pA] wz).putRow pA 0 _ (.inl (by simp))).keep rMz.out (by simpa using HMA.out), by simp [rAz], slz.out.chg0 ((Chg.refl [pA] wz).putRow pA 0 _ (.inl (by simp))) (by rw [HN.out]; exact AP'.out), HI'.out⟩
              case measure => simp [intOf]; omega
            · skip
              refine gen_exit (w := wq) (b := pB) (x := .cells (ec (y')) 26 (0, 0)) (by (repeat' (first | with_reducible exact Chg.refl _ _ | with_reducible assumption | with_reducible refine Chg.drew ?_ | with_reducible refine Chg.drewN ?_ _ | with_reducible refine Chg.alloc ?_ _ | with_reducible refine Chg.putRow ?_ _ _ _ (.inr ?_) | with_reducible refine Chg.setCell ?_ _ _ _ (.inr ?_)  | with_reducible refine Chg.trans ?_ c3 | with_reducible refine Chg.trans (b := World.drew _) ?_ c3 | (show _ ≤ _; first | exact Nat.le_refl _ | omega | (simp; done))))) (Chg.keep ((Chg.refl [wq.heap.size] w').putRow wq.heap.size 0 _ (.inl (by simp))) (kA (by first | exact rBq | (simp [rBq]; done))) (by have := orBq.lt; simp; omega)) fun wz cZ rBz => ?_
              have rMz := Lib.hid (cZ.keep rMq.out (by simp))
              have rAz := cZ.keep rAq (by simp)
              have slz := Lib.hid (slq.out.chg cZ (by simp))
              have HCz := Lib.hid (HCq.out.trans cZ)
              clear c3 rB2 kA kb kK cZ rAq rBq hbq rKq HCq slq TRk rMq orAq orBq ohbq orKq
              have oAz := old rAz
              have oBz := old rBz
              go_wp2_with fail
              go_roundw
              case rel => exact ⟨j + 1, y', by omega, by go_num, HCz.out.putRow pA 0 _ (.inr HPA.out), ((Chg.refl [pA] wz).putRow pA 0 _ (.inl (by simp))).keep rMz.out (by simpa using HMA.out), by simp [rAz], slz.out.chg0 ((Chg.refl [pA] wz).putRow pA 0 _ (.inl (by simp))) (by rw [HN.out]; exact AP'.out), HI'.out⟩
              case measure => simp [intOf]; omega
      · have hjN : j = N := by omega
        have hinv := HI.out
        rw [hjN, show N = (coresL o).length from HN.out] at hinv
        clear HI HSL
        subst hjN
        have TRj := Lib.hid (HT.out.keep HC.out (by simp))
        have oMr := old rMr
        have oAr := old rAr
        rcases HK.out with ⟨hkd, hon⟩ | ⟨hkd, hoo⟩
        · rw [hkd] at hinv
          obtain ⟨z1, z2, z3⟩ := ended_getS (cores_ord o) hon hcc hinv
          clear hinv
          have k2 : (m.kd == 2) = false := by rw [hkd]; rfl
          have k1 : (m.kd == 1) = true := by rw [hkd]; rfl
          have z4 : (y.sh &&& bitM c != 0#8) = true := by
            exact z3
          clear z3
          go_wp2_with fail
          refine gen_world1 (w := w) (b1 := pA) (x1 := .cells (ec (y)) 26 (0, 0)) (by have := HC.out; (repeat' (first | with_reducible exact Chg.refl _ _ | with_reducible assumption | with_reducible refine Chg.drew ?_ | with_reducible refine Chg.drewN ?_ _ | with_reducible refine Chg.alloc ?_ _ | with_reducible refine Chg.putRow ?_ _ _ _ (.inr ?_) | with_reducible refine Chg.setCell ?_ _ _ _ (.inr ?_)  | (show _ ≤ _; first | exact Nat.le_refl _ | omega | (simp; done))))) (by first | exact rAr | (simp [rAr]; done)) fun w6 C6 rA6 => ?_
          have hy : ∀ z : Aft w6.heap.size w6, z.w.heap[pA]? = some (.cells (ec (y)) 26 (0, 0)) := fun z => (z.block (old rA6).lt).trans rA6
          have HX := Lib.hid (show ∀ z : Aft w6.heap.size w6, Tab z.w from fun z => (HT.out.keep C6 (by simp)).keep (Below.chg z.below (Nat.le_refl _)) (by simp))
          have HC6 := Lib.hid C6
          clear C6 rAr oAr rMr oMr HC TRj
          refine wp_region_aft w6.heap.size (by kernel_rfl) (by kernel_rfl) ?_
          repeat (go_big_quiet_step (first
            | (go_at_call 26; exact calls_aft_same (rbit_any _ _))
            | (go_at_call 20; exact calls_aftR (Nat.le_refl _) (dwakes _ (HX.out _)))))
          refine wpQuiet_nil ?_
          rintro _ ⟨z, rfl⟩
          go_wp2_with fail
          go_ret
          exact ⟨by simp, HC6.out.trans (Below.chg z.below (Nat.le_refl _))⟩
        · rw [hkd] at hinv
          obtain ⟨q1, q2, q3, _⟩ := ended_flush (cores_ord o) (.inl rfl) hcc (fun h => own_none hgp (hoo ▸ h)) hinv
          clear hinv
          have k2 : (m.kd == 2) = false := by rw [hkd]; rfl
          have k1 : (m.kd == 1) = false := by rw [hkd]; rfl
          have k5 : (m.kd != 5) = true := by rw [hkd]; rfl
          skip
          clear q3
          go_wp2_with fail
          refine (dready_at y true q1 wr).mono ?_
          rintro e w6 ⟨rfl, c6⟩
          have rA6 := c6.keep rAr (by simp)
          have oA6 := old rA6
          have C6 := Lib.hid (HC.out.trans c6)
          clear c6 rAr oAr rMr oMr HC TRj
          go_wp2_with (go_at_call 20; refine (dwakes _ (HT.out.keep C6.out (by simp))).mono ?_; rintro e w9 ⟨rfl, c9⟩)
          go_ret
          exact ⟨by simp, C6.out.trans c9⟩

set_option maxHeartbeats 8000000 in
set_option maxRecDepth 100000 in
theorem dends_13t (x : En) (c : Int) (m : Ms) (w : World) (ht : Tab w) (h0 : ((askE x c m).2 != 0) = false) (tb : ((askE x c m).1.1.bu == 0) = false) (hhe : x.he = true) (hgp : Gp x) (hcc : isC c = true) (hli : lineB m.li = true) (o : Mk) (hask : askE x c m = (waitE x c m o 13, 0)) (hho : ∀ k : Nat, k < 8 → hasM o k = true → hasM x.sh k = true ∨ x.ow = (k : Int)) (hkd : (m.kd = 1 ∧ o ≠ 0#8) ∨ (m.kd = 4 ∧ o = bitM x.ow)) (hbit : (bitM c == 0#8) = false) : Calls Tryd.prog 6 #[.agg (ec x), .int .i64 c, .agg (wyc m true)] w fun e w' => e = .returned (.bool true) ∧ Chg [] w w' := by
  have HT := Lib.hid ht
  have HK := Lib.hid hkd
  clear ht hkd
  go_enter Tryd.func6, Tryd.ntmps6
  try dsimp only [List.append]
  go_wp2_with fail
  refine gen_world2 (w := w) (b1 := w.heap.size) (x1 := .cells (ec (x)) 26 (0, 0)) (b2 := w.heap.size + 1) (x2 := .cells (wyc m true) 50 (0, 0)) (by (repeat' (first | with_reducible exact Chg.refl _ _ | with_reducible assumption | with_reducible refine Chg.drew ?_ | with_reducible refine Chg.drewN ?_ _ | with_reducible refine Chg.alloc ?_ _ | with_reducible refine Chg.putRow ?_ _ _ _ (.inr ?_) | with_reducible refine Chg.setCell ?_ _ _ _ (.inr ?_)  | (show _ ≤ _; first | exact Nat.le_refl _ | omega | (simp; done))))) (by simp [*]) (by simp [*]) fun w1 C1 rE rW => ?_
  have oE := old rE
  have oW := old rW
  have HC1 := Lib.hid C1
  clear C1
  go_region_held3 (fun w' => w'.heap[w.heap.size + 1]? = some (.cells (wyc m true) 50 (0, 0))) (first | exact rW | (simp [*]; done)) (fail)
  all_goals
    go_wp2_with fail
    refine gen_calls3 (w := w) (b1 := w.heap.size) (x1 := .cells (ec (x)) 26 (0, 0)) (b2 := w.heap.size + 1) (x2 := .cells (wyc m true) 50 (0, 0)) (b3 := w1.heap.size) (x3 := .cells (msc m) 28 (0, 0)) (by have := HC1.out; have hz := HC1.out.size; (repeat' (first | with_reducible exact Chg.refl _ _ | with_reducible assumption | with_reducible refine Chg.drew ?_ | with_reducible refine Chg.drewN ?_ _ | with_reducible refine Chg.alloc ?_ _ | with_reducible refine Chg.putRow ?_ _ _ _ (.inr ?_) | with_reducible refine Chg.setCell ?_ _ _ _ (.inr ?_)  | (show _ ≤ _; first | exact Nat.le_refl _ | omega | (simp; done))))) (by simp [*]) (by simp [*]) (by simp [*]) fun w2 C2' rE2 rW2 rM => ?_
    have C2 := Lib.hid C2'
    clear C2' HC1 rE rW oE oW
    generalize w1.heap.size = pM at rM ⊢
    have hc := dask_any x c m w2 (HT.out.keep C2.out (by simp))
    refine hc.mono ?_
    clear hc
    rintro e w4 ⟨A, n1, rfl, hs, _, c4⟩
    have rM4 := c4.keep rM (by simp)
    have C4 := Lib.hid (C2.out.trans c4)
    have AP := Lib.hid hs.apart
    have SS := Lib.hid hs
    clear hs c4 C2 rM rE2 rW2
    have oM := old rM4
    rw [hask] at SS AP ⊢
    have HPA := Lib.hid (show w.heap.size ≤ w4.heap.size from C4.out.size)
    have HMA := Lib.hid (show pM ≠ w4.heap.size from Nat.ne_of_lt oM.lt)
    have v1 : (waitE x c m o 13).1.bu = m.kd := rfl
    have v3 : (waitE x c m o 13).1.wa = o := rfl
    have v4 : (m.kd == 0) = false := by rcases HK.out with ⟨h, _⟩ | ⟨h, _⟩ <;> rw [h] <;> rfl
    have hlen := tell_length o (ms4 13 m.li false false)
    have h8 : (coresL o).length ≤ 8 := coresTo_len _ 8
    have I0 := Lib.hid (show Inv7 x o m.kd c m.li true (coresL o).reverse 0 (waitE x c m o 13).1 from Inv7.start hhe hgp c hcc m o 13 (by simp) true (coresL o).reverse (rev_ord o) hho (by rcases HK.out with ⟨h, h2⟩ | ⟨h, _⟩ <;> simp [h] <;> exact h2))
    go_wp2_with (go_at_call 26; refine (rbit_any _ _).mono ?_; rintro e w' ⟨rfl, rfl⟩; (try rw [hbit]))
    refine gen_calls2 (w := w4) (b1 := pM) (x1 := .cells (msc m) 28 (0, 0)) (b2 := w4.heap.size) (x2 := .cells (ec ((waitE x c m o 13).1)) 26 (0, 0)) (by (repeat' (first | with_reducible exact Chg.refl _ _ | with_reducible assumption | with_reducible refine Chg.drew ?_ | with_reducible refine Chg.drewN ?_ _ | with_reducible refine Chg.alloc ?_ _ | with_reducible refine Chg.putRow ?_ _ _ _ (.inr ?_) | with_reducible refine Chg.setCell ?_ _ _ _ (.inr ?_)  | (show _ ≤ _; first | exact Nat.le_refl _ | omega | (simp; done))))) (by simp [*]) (by simp) fun w5 cA rM5 rA5 => ?_
    have S5 := Lib.hid (SS.out.chg cA (by simp))
    have C5 := Lib.hid (C4.out.trans cA)
    clear cA SS C4 rM4 oM
    generalize w4.heap.size = pA at rA5 AP HPA HMA ⊢
    refine (rcores_any o w5 (HT.out.keep C5.out (by simp)).old).mono ?_
    rintro e w6 ⟨B, cB, rfl, hsB, _, c6⟩
    have rM := c6.keep rM5 (by simp)
    have rA := c6.keep rA5 (by simp)
    have S6 := S5.out.chg c6 (by simp)
    have C6 := Lib.hid (C5.out.trans c6)
    clear hsB c6 rM5 rA5 S5 C5
    have oM := old rM
    have oA := old rA
    have SS' := Lib.hid (show Sl w6 13 A (coresL o).length (cat Sd.enc (tellL o (ms4 13 m.li false false))) by rw [← hlen]; exact S6)
    have AP' := Lib.hid (show (coresL o).length = 0 ∨ ∀ a, A = some a → a.block ≠ pA by rw [← hlen]; exact AP.out)
    rw [show (waitE x c m o 13).2.length = (coresL o).length from hlen]
    clear S6 AP hlen hask tb
    generalize (waitE x c m o 13).1 = a0 at rA I0 v1 v3 ⊢
    obtain ⟨N, hN⟩ : ∃ N, N = (coresL o).length := ⟨_, rfl⟩
    rw [← hN] at h8 ⊢
    have HN := Lib.hid hN
    clear hN
    have tn : ((N : Int) != (N : Int)) = false := by simp
    go_wp2_with fail
    go_loopw [13] (fun i wr => ∃ (j : Nat) (y : En), j ≤ N ∧ i = .int .i64 j ∧ Chg [] w wr ∧ wr.heap[pM]? = some (.cells (msc m) 28 (0, 0)) ∧ wr.heap[pA]? = some (.cells (ec (y)) 26 (0, 0)) ∧ Sl wr 13 A N (cat Sd.enc (tellL o (ms4 13 m.li false false))) ∧ Inv7 x o m.kd c m.li true (coresL o).reverse j y) (fun i _ => N - (intOf i).toNat)
    case atStart => exact ⟨0, a0, by omega, rfl, C6.out, rM, rA, by rw [HN.out]; exact SS'.out, I0.out⟩
    case round =>
      obtain ⟨j, y, hj, rfl, hc, rMr, rAr, hsl, hinv⟩ := hrel
      have HC := Lib.hid hc
      have HI := Lib.hid hinv
      have HSL := Lib.hid hsl
      clear hc hinv hsl
      have g0 : (0 : Int) ≤ (j : Int) := by omega
      have gN : (N : Int) ≤ 8 := by omega
      by_cases hlt : j < N
      · have hlo : (coresL o).reverse.length = N := by rw [List.length_reverse]; exact HN.out.symm
        obtain ⟨d, hd⟩ : ∃ d, (coresL o).reverse[j]? = some d := ⟨(coresL o).reverse[j]'(by rw [hlo]; exact hlt), List.getElem?_eq_getElem _⟩
        obtain ⟨y', ss', hans, hinv', hmore, hno⟩ := HI.out.step (rev_ord o) (by rw [hlo]; exact hlt) (ms4 7 m.li false true) (am_dn m.li hli) hd
        obtain ⟨zz, tz, n2c, hn2, hans2⟩ : ∃ (e : En) (t : List Sd) (n : Int), (n == 0) = false ∧ ansE y' d (ms4 7 m.li false true) = ((e, t), n) := by
          rcases ansE_again (am := (ms4 7 m.li false true)) hno with h | h
          · exact ⟨_, _, 1, rfl, h⟩
          · exact ⟨_, _, 16, rfl, h⟩
        rw [hlo] at hmore
        have HI' := Lib.hid hinv'
        have HM' := Lib.hid hmore
        obtain ⟨q, hq⟩ : ∃ q : Nat, q = N - 1 - j := ⟨_, rfl⟩
        have hqd : (coresL o)[q]? = some d := by
          rw [hq]
          rw [List.getElem?_reverse (by rw [← HN.out]; exact hlt), ← HN.out] at hd
          exact hd
        have gq1 : (q : Int) < (N : Int) := by omega
        have gq0 : (0 : Int) ≤ (q : Int) := by omega
        have hqi : (N : Int) - 1 - (j : Int) = (q : Int) := by omega
        clear hq
        obtain ⟨b, off, cs, tt, ff, rfl, hb, i0, i1, _, _⟩ := HSL.out.sd (tell_at (m := ms4 13 m.li false false) hqd)
        have g1' : (j : Int) < (N : Int) := by omega
        have oMr := old rMr
        have oAr := old rAr
        have obr := old hb
        have i1' : cs[off + q * 13 + 1]? = some (.int .i64 13) := i1
        clear hinv' hmore hno hd hqd i1
        go_wp2_with fail
        obtain ⟨am, ham⟩ : ∃ z, z = (ms4 7 m.li false true) := ⟨_, rfl⟩
        rw [← ham] at hans hans2
        refine gen_world3 (w := wr) (b1 := pA) (x1 := .cells (ec (y)) 26 (0, 0)) (b2 := b) (x2 := .cells cs tt ff) (b3 := wr.heap.size) (x3 := .cells (msc am) 28 (0, 0)) (by (repeat' (first | with_reducible exact Chg.refl _ _ | with_reducible assumption | with_reducible refine Chg.drew ?_ | with_reducible refine Chg.drewN ?_ _ | with_reducible refine Chg.alloc ?_ _ | with_reducible refine Chg.putRow ?_ _ _ _ (.inr ?_) | with_reducible refine Chg.setCell ?_ _ _ _ (.inr ?_)  | (show _ ≤ _; first | exact Nat.le_refl _ | omega | (simp; done))))) (by simp [*]) (by simp [*]) (by rw [ham, ← ms4_lit]; simp) fun wk cK rAk hbk rKk => ?_
        have rMk := Lib.hid (cK.keep rMr (by simp))
        have slk := Lib.hid (HSL.out.chg cK (by simp))
        have HCk := Lib.hid (HC.out.trans cK)
        have TRk := HT.out.keep HCk.out (by simp)
        clear cK HC HSL HI rMr rAr hb oMr oAr obr ham
        generalize wr.heap.size = pK at rKk ⊢
        have orAk := old rAk
        have ohbk := old hbk
        have orKk := old rKk
        go_region_held3 (fun w' => w'.heap[pA]? = some (.cells (ec (y)) 26 (0, 0)) ∧ w'.heap[b]? = some (.cells cs tt ff) ∧ w'.heap[pK]? = some (.cells (msc am) 28 (0, 0))) (first | exact ⟨rAk, hbk, rKk⟩ | exact ⟨kA (by (first | exact rAk | (simp [rAk]; done))), kb (by (first | exact hbk | (simp [hbk]; done))), kK (by (first | exact rKk | (simp [rKk]; done)))⟩ | (have kA' := kA (by (first | exact rAk | (simp [rAk]; done))); have kb' := kb (by (first | exact hbk | (simp [hbk]; done))); have kK' := kK (by (first | exact rKk | (simp [rKk]; done))); have oA' := old kA'; have ob' := old kb'; have oK' := old kK'; simp [kA', kb', kK']; done) | (exact ⟨(Chg.keep ((Chg.refl [wk.heap.size] w').putRow wk.heap.size 0 _ (.inl (by simp))) (kA (by (first | exact rAk | (simp [rAk]; done)))) (by have := orAk.lt; simp; omega)), (Chg.keep ((Chg.refl [wk.heap.size] w').putRow wk.heap.size 0 _ (.inl (by simp))) (kb (by (first | exact hbk | (simp [hbk]; done)))) (by have := ohbk.lt; simp; omega)), (Chg.keep ((Chg.refl [wk.heap.size] w').putRow wk.heap.size 0 _ (.inl (by simp))) (kK (by (first | exact rKk | (simp [rKk]; done)))) (by have := orKk.lt; simp; omega))⟩) | (simp [rAk, hbk, rKk]; done))
          ((go_at_call 21; refine (danswer_at _ _ _ _ hans _ ?_).mono ?_; exact (by first | exact TRk | exact TRk.keep ((Chg.refl [] _).alloc _) (by simp) | exact (TRk.keep (Chg.refl [] _).drew (by simp)) | exact (TRk.keep ((Chg.refl [] _).drew.alloc _) (by simp))); rintro e w' ⟨A2, n2, rfl, hs2, _, c2⟩; (have rB2 := fun h => c2.keep (x := .cells (ec (enZ)) 26 (0, 0)) (k := wk.heap.size) h (by simp)); (have kA := fun h => c2.keep (x := .cells (ec (y)) 26 (0, 0)) (k := pA) h (by simp)); (have kb := fun h => c2.keep (x := .cells cs tt ff) (k := b) h (by simp)); (have kK := fun h => c2.keep (x := .cells (msc am) 28 (0, 0)) (k := pK) h (by simp))))
        · skip
          refine gen_exit (w := wk) (b := w'.heap.size) (x := .cells (ec (y')) 26 (0, 0)) (by (repeat' (first | with_reducible exact Chg.refl _ _ | with_reducible assumption | with_reducible refine Chg.drew ?_ | with_reducible refine Chg.drewN ?_ _ | with_reducible refine Chg.alloc ?_ _ | with_reducible refine Chg.putRow ?_ _ _ _ (.inr ?_) | with_reducible refine Chg.setCell ?_ _ _ _ (.inr ?_)  | with_reducible refine Chg.trans ?_ c2 | with_reducible refine Chg.trans (b := World.drew _) ?_ c2 | (show _ ≤ _; first | exact Nat.le_refl _ | omega | (simp; done))))) (by first | (simp; done) | (simp [rB2 (by simp)]; done)) fun wq cW rBq => ?_
          generalize w'.heap.size = pB at rBq ⊢
          have rMq := Lib.hid (cW.keep rMk.out (by simp))
          have rAq := cW.keep rAk (by simp)
          have hbq := cW.keep hbk (by simp)
          have rKq := cW.keep rKk (by simp)
          have slq := Lib.hid (slk.out.chg cW (by simp))
          have HCq := Lib.hid (HCk.out.trans cW)
          clear c2 rB2 kA kb kK cW rAk hbk rKk HCk slk TRk rMk orAk ohbk orKk
          have orAq := old rAq
          have orBq := old rBq
          have ohbq := old hbq
          have orKq := old rKq
          by_cases hm : j + 1 < N
          · obtain ⟨rfl, e2⟩ := HM'.out hm
            have hm1 : (j : Int) + 1 < (N : Int) := by omega
            clear HM' hs2
            go_wp2_with fail
            have TRk := HT.out.keep HCq.out (by simp)
            go_region_held3 (fun w' => w'.heap[pB]? = some (.cells (ec (y')) 26 (0, 0)) ∧ w'.heap[b]? = some (.cells cs tt ff) ∧ w'.heap[pK]? = some (.cells (msc am) 28 (0, 0))) (first | exact ⟨rBq, hbq, rKq⟩ | exact ⟨kA (by (first | exact rBq | (simp [rBq]; done))), kb (by (first | exact hbq | (simp [hbq]; done))), kK (by (first | exact rKq | (simp [rKq]; done)))⟩ | (have kA' := kA (by (first | exact rBq | (simp [rBq]; done))); have kb' := kb (by (first | exact hbq | (simp [hbq]; done))); have kK' := kK (by (first | exact rKq | (simp [rKq]; done))); have oA' := old kA'; have ob' := old kb'; have oK' := old kK'; simp [kA', kb', kK']; done) | (exact ⟨(Chg.keep ((Chg.refl [wq.heap.size] w').putRow wq.heap.size 0 _ (.inl (by simp))) (kA (by (first | exact rBq | (simp [rBq]; done)))) (by have := orBq.lt; simp; omega)), (Chg.keep ((Chg.refl [wq.heap.size] w').putRow wq.heap.size 0 _ (.inl (by simp))) (kb (by (first | exact hbq | (simp [hbq]; done)))) (by have := ohbq.lt; simp; omega)), (Chg.keep ((Chg.refl [wq.heap.size] w').putRow wq.heap.size 0 _ (.inl (by simp))) (kK (by (first | exact rKq | (simp [rKq]; done)))) (by have := orKq.lt; simp; omega))⟩) | (simp [rBq, hbq, rKq]; done))
              ((go_at_call 21; refine (danswer_at _ _ _ _ hans2 _ ?_).mono ?_; exact (by first | exact TRk | exact TRk.keep ((Chg.refl [] _).alloc _) (by simp) | exact (TRk.keep (Chg.refl [] _).drew (by simp)) | exact (TRk.keep ((Chg.refl [] _).drew.alloc _) (by simp))); rintro e w' ⟨A3, n3, rfl, hs3, _, c3⟩; (have rB2 := fun h => c3.keep (x := .cells (ec (enZ)) 26 (0, 0)) (k := wq.heap.size) h (by simp)); (have kA := fun h => c3.keep (x := .cells (ec (y')) 26 (0, 0)) (k := pB) h (by simp)); (have kb := fun h => c3.keep (x := .cells cs tt ff) (k := b) h (by simp)); (have kK := fun h => c3.keep (x := .cells (msc am) 28 (0, 0)) (k := pK) h (by simp))))
            · skip
              refine gen_exit (w := wq) (b := pB) (x := .cells (ec (y')) 26 (0, 0)) (by (repeat' (first | with_reducible exact Chg.refl _ _ | with_reducible assumption | with_reducible refine Chg.drew ?_ | with_reducible refine Chg.drewN ?_ _ | with_reducible refine Chg.alloc ?_ _ | with_reducible refine Chg.putRow ?_ _ _ _ (.inr ?_) | with_reducible refine Chg.setCell ?_ _ _ _ (.inr ?_)  | with_reducible refine Chg.trans ?_ c3 | with_reducible refine Chg.trans (b := World.drew _) ?_ c3 | (show _ ≤ _; first | exact Nat.le_refl _ | omega | (simp; done))))) (by have kA' := kA (by first | exact rBq | (simp [rBq]; done)); have oA' := old kA'; simp [kA']) fun wz cZ rBz => ?_
              have rMz := Lib.hid (cZ.keep rMq.out (by simp))
              have rAz := cZ.keep rAq (by simp)
              have slz := Lib.hid (slq.out.chg cZ (by simp))
              have HCz := Lib.hid (HCq.out.trans cZ)
              clear c3 rB2 kA kb kK cZ rAq rBq hbq rKq HCq slq TRk rMq orAq orBq ohbq orKq
              have oAz := old rAz
              have oBz := old rBz
              go_wp2_with fail
              go_roundw
              case rel => exact ⟨j + 1, y', by omega, by go_num, HCz.out.putRow pA 0 _ (.inr HPA.out), ((Chg.refl [pA] wz).putRow pA 0 _ (.inl (by simp))).keep rMz.out (by simpa using HMA.out), by simp [rAz], slz.out.chg0 ((Chg.refl [pA] wz).putRow pA 0 _ (.inl (by simp))) (by rw [HN.out]; exact AP'.out), HI'.out⟩
              case measure => simp [intOf]; omega
            · skip
              refine gen_exit (w := wq) (b := pB) (x := .cells (ec (y')) 26 (0, 0)) (by (repeat' (first | with_reducible exact Chg.refl _ _ | with_reducible assumption | with_reducible refine Chg.drew ?_ | with_reducible refine Chg.drewN ?_ _ | with_reducible refine Chg.alloc ?_ _ | with_reducible refine Chg.putRow ?_ _ _ _ (.inr ?_) | with_reducible refine Chg.setCell ?_ _ _ _ (.inr ?_)  | with_reducible refine Chg.trans ?_ c3 | with_reducible refine Chg.trans (b := World.drew _) ?_ c3 | (show _ ≤ _; first | exact Nat.le_refl _ | omega | (simp; done))))) (Chg.keep ((Chg.refl [wq.heap.size] w').putRow wq.heap.size 0 _ (.inl (by simp))) (kA (by first | exact rBq | (simp [rBq]; done))) (by have := orBq.lt; simp; omega)) fun wz cZ rBz => ?_
              have rMz := Lib.hid (cZ.keep rMq.out (by simp))
              have rAz := cZ.keep rAq (by simp)
              have slz := Lib.hid (slq.out.chg cZ (by simp))
              have HCz := Lib.hid (HCq.out.trans cZ)
              clear c3 rB2 kA kb kK cZ rAq rBq hbq rKq HCq slq TRk rMq orAq orBq ohbq orKq
              have oAz := old rAz
              have oBz := old rBz
              go_wp2_with fail
              go_roundw
              case rel => exact ⟨j + 1, y', by omega, by go_num, HCz.out.putRow pA 0 _ (.inr HPA.out), ((Chg.refl [pA] wz).putRow pA 0 _ (.inl (by simp))).keep rMz.out (by simpa using HMA.out), by simp [rAz], slz.out.chg0 ((Chg.refl [pA] wz).putRow pA 0 _ (.inl (by simp))) (by rw [HN.out]; exact AP'.out), HI'.out⟩
              case measure => simp [intOf]; omega
          · have hm1 : ¬ ((j : Int) + 1 < (N : Int)) := by omega
            clear HM' hs2
            go_wp2_with fail
            have TRk := HT.out.keep HCq.out (by simp)
            go_region_held3 (fun w' => w'.heap[pB]? = some (.cells (ec (y')) 26 (0, 0)) ∧ w'.heap[b]? = some (.cells cs tt ff) ∧ w'.heap[pK]? = some (.cells (msc am) 28 (0, 0))) (first | exact ⟨rBq, hbq, rKq⟩ | exact ⟨kA (by (first | exact rBq | (simp [rBq]; done))), kb (by (first | exact hbq | (simp [hbq]; done))), kK (by (first | exact rKq | (simp [rKq]; done)))⟩ | (have kA' := kA (by (first | exact rBq | (simp [rBq]; done))); have kb' := kb (by (first | exact hbq | (simp [hbq]; done))); have kK' := kK (by (first | exact rKq | (simp [rKq]; done))); have oA' := old kA'; have ob' := old kb'; have oK' := old kK'; simp [kA', kb', kK']; done) | (exact ⟨(Chg.keep ((Chg.refl [wq.heap.size] w').putRow wq.heap.size 0 _ (.inl (by simp))) (kA (by (first | exact rBq | (simp [rBq]; done)))) (by have := orBq.lt; simp; omega)), (Chg.keep ((Chg.refl [wq.heap.size] w').putRow wq.heap.size 0 _ (.inl (by simp))) (kb (by (first | exact hbq | (simp [hbq]; done)))) (by have := ohbq.lt; simp; omega)), (Chg.keep ((Chg.refl [wq.heap.size] w').putRow wq.heap.size 0 _ (.inl (by simp))) (kK (by (first | exact rKq | (simp [rKq]; done)))) (by have := orKq.lt; simp; omega))⟩) | (simp [rBq, hbq, rKq]; done))
              ((go_at_call 21; refine (danswer_at _ _ _ _ hans2 _ ?_).mono ?_; exact (by first | exact TRk | exact TRk.keep ((Chg.refl [] _).alloc _) (by simp) | exact (TRk.keep (Chg.refl [] _).drew (by simp)) | exact (TRk.keep ((Chg.refl [] _).drew.alloc _) (by simp))); rintro e w' ⟨A3, n3, rfl, hs3, _, c3⟩; (have rB2 := fun h => c3.keep (x := .cells (ec (enZ)) 26 (0, 0)) (k := wq.heap.size) h (by simp)); (have kA := fun h => c3.keep (x := .cells (ec (y')) 26 (0, 0)) (k := pB) h (by simp)); (have kb := fun h => c3.keep (x := .cells cs tt ff) (k := b) h (by simp)); (have kK := fun h => c3.keep (x := .cells (msc am) 28 (0, 0)) (k := pK) h (by simp))))
            · skip
              refine gen_exit (w := wq) (b := pB) (x := .cells (ec (y')) 26 (0, 0)) (by (repeat' (first | with_reducible exact Chg.refl _ _ | with_reducible assumption | with_reducible refine Chg.drew ?_ | with_reducible refine Chg.drewN ?_ _ | with_reducible refine Chg.alloc ?_ _ | with_reducible refine Chg.putRow ?_ _ _ _ (.inr ?_) | with_reducible refine Chg.setCell ?_ _ _ _ (.inr ?_)  | with_reducible refine Chg.trans ?_ c3 | with_reducible refine Chg.trans (b := World.drew _) ?_ c3 | (show _ ≤ _; first | exact Nat.le_refl _ | omega | (simp; done))))) (by have kA' := kA (by first | exact rBq | (simp [rBq]; done)); have oA' := old kA'; simp [kA']) fun wz cZ rBz => ?_
              have rMz := Lib.hid (cZ.keep rMq.out (by simp))
              have rAz := cZ.keep rAq (by simp)
              have slz := Lib.hid (slq.out.chg cZ (by simp))
              have HCz := Lib.hid (HCq.out.trans cZ)
              clear c3 rB2 kA kb kK cZ rAq rBq hbq rKq HCq slq TRk rMq orAq orBq ohbq orKq
              have oAz := old rAz
              have oBz := old rBz
              go_wp2_with fail
              go_roundw
              case rel => exact ⟨j + 1, y', by omega, by go_num, HCz.out.putRow pA 0 _ (.inr HPA.out), ((Chg.refl [pA] wz).putRow pA 0 _ (.inl (by simp))).keep rMz.out (by simpa using HMA.out), by simp [rAz], slz.out.chg0 ((Chg.refl [pA] wz).putRow pA 0 _ (.inl (by simp))) (by rw [HN.out]; exact AP'.out), HI'.out⟩
              case measure => simp [intOf]; omega
            · skip
              refine gen_exit (w := wq) (b := pB) (x := .cells (ec (y')) 26 (0, 0)) (by (repeat' (first | with_reducible exact Chg.refl _ _ | with_reducible assumption | with_reducible refine Chg.drew ?_ | with_reducible refine Chg.drewN ?_ _ | with_reducible refine Chg.alloc ?_ _ | with_reducible refine Chg.putRow ?_ _ _ _ (.inr ?_) | with_reducible refine Chg.setCell ?_ _ _ _ (.inr ?_)  | with_reducible refine Chg.trans ?_ c3 | with_reducible refine Chg.trans (b := World.drew _) ?_ c3 | (show _ ≤ _; first | exact Nat.le_refl _ | omega | (simp; done))))) (Chg.keep ((Chg.refl [wq.heap.size] w').putRow wq.heap.size 0 _ (.inl (by simp))) (kA (by first | exact rBq | (simp [rBq]; done))) (by have := orBq.lt; simp; omega)) fun wz cZ rBz => ?_
              have rMz := Lib.hid (cZ.keep rMq.out (by simp))
              have rAz := cZ.keep rAq (by simp)
              have slz := Lib.hid (slq.out.chg cZ (by simp))
              have HCz := Lib.hid (HCq.out.trans cZ)
              clear c3 rB2 kA kb kK cZ rAq rBq hbq rKq HCq slq TRk rMq orAq orBq ohbq orKq
              have oAz := old rAz
              have oBz := old rBz
              go_wp2_with fail
              go_roundw
              case rel => exact ⟨j + 1, y', by omega, by go_num, HCz.out.putRow pA 0 _ (.inr HPA.out), ((Chg.refl [pA] wz).putRow pA 0 _ (.inl (by simp))).keep rMz.out (by simpa using HMA.out), by simp [rAz], slz.out.chg0 ((Chg.refl [pA] wz).putRow pA 0 _ (.inl (by simp))) (by rw [HN.out]; exact AP'.out), HI'.out⟩
              case measure => simp [intOf]; omega
        · skip
          refine gen_exit (w := wk) (b := wk.heap.size) (x := .cells (ec (y')) 26 (0, 0)) (by (repeat' (first | with_reducible exact Chg.refl _ _ | with_reducible assumption | with_reducible refine Chg.drew ?_ | with_reducible refine Chg.drewN ?_ _ | with_reducible refine Chg.alloc ?_ _ | with_reducible refine Chg.putRow ?_ _ _ _ (.inr ?_) | with_reducible refine Chg.setCell ?_ _ _ _ (.inr ?_)  | with_reducible refine Chg.trans ?_ c2 | with_reducible refine Chg.trans (b := World.drew _) ?_ c2 | (show _ ≤ _; first | exact Nat.le_refl _ | omega | (simp; done))))) (by first | (simp; done) | (simp [rB2 (by simp)]; done)) fun wq cW rBq => ?_
          generalize wk.heap.size = pB at rBq ⊢
          have rMq := Lib.hid (cW.keep rMk.out (by simp))
          have rAq := cW.keep rAk (by simp)
          have hbq := cW.keep hbk (by simp)
          have rKq := cW.keep rKk (by simp)
          have slq := Lib.hid (slk.out.chg cW (by simp))
          have HCq := Lib.hid (HCk.out.trans cW)
          clear c2 rB2 kA kb kK cW rAk hbk rKk HCk slk TRk rMk orAk ohbk orKk
          have orAq := old rAq
          have orBq := old rBq
          have ohbq := old hbq
          have orKq := old rKq
          by_cases hm : j + 1 < N
          · obtain ⟨rfl, e2⟩ := HM'.out hm
            have hm1 : (j : Int) + 1 < (N : Int) := by omega
            clear HM' hs2
            go_wp2_with fail
            have TRk := HT.out.keep HCq.out (by simp)
            go_region_held3 (fun w' => w'.heap[pB]? = some (.cells (ec (y')) 26 (0, 0)) ∧ w'.heap[b]? = some (.cells cs tt ff) ∧ w'.heap[pK]? = some (.cells (msc am) 28 (0, 0))) (first | exact ⟨rBq, hbq, rKq⟩ | exact ⟨kA (by (first | exact rBq | (simp [rBq]; done))), kb (by (first | exact hbq | (simp [hbq]; done))), kK (by (first | exact rKq | (simp [rKq]; done)))⟩ | (have kA' := kA (by (first | exact rBq | (simp [rBq]; done))); have kb' := kb (by (first | exact hbq | (simp [hbq]; done))); have kK' := kK (by (first | exact rKq | (simp [rKq]; done))); have oA' := old kA'; have ob' := old kb'; have oK' := old kK'; simp [kA', kb', kK']; done) | (exact ⟨(Chg.keep ((Chg.refl [wq.heap.size] w').putRow wq.heap.size 0 _ (.inl (by simp))) (kA (by (first | exact rBq | (simp [rBq]; done)))) (by have := orBq.lt; simp; omega)), (Chg.keep ((Chg.refl [wq.heap.size] w').putRow wq.heap.size 0 _ (.inl (by simp))) (kb (by (first | exact hbq | (simp [hbq]; done)))) (by have := ohbq.lt; simp; omega)), (Chg.keep ((Chg.refl [wq.heap.size] w').putRow wq.heap.size 0 _ (.inl (by simp))) (kK (by (first | exact rKq | (simp [rKq]; done)))) (by have := orKq.lt; simp; omega))⟩) | (simp [rBq, hbq, rKq]; done))
              ((go_at_call 21; refine (danswer_at _ _ _ _ hans2 _ ?_).mono ?_; exact (by first | exact TRk | exact TRk.keep ((Chg.refl [] _).alloc _) (by simp) | exact (TRk.keep (Chg.refl [] _).drew (by simp)) | exact (TRk.keep ((Chg.refl [] _).drew.alloc _) (by simp))); rintro e w' ⟨A3, n3, rfl, hs3, _, c3⟩; (have rB2 := fun h => c3.keep (x := .cells (ec (enZ)) 26 (0, 0)) (k := wq.heap.size) h (by simp)); (have kA := fun h => c3.keep (x := .cells (ec (y')) 26 (0, 0)) (k := pB) h (by simp)); (have kb := fun h => c3.keep (x := .cells cs tt ff) (k := b) h (by simp)); (have kK := fun h => c3.keep (x := .cells (msc am) 28 (0, 0)) (k := pK) h (by simp))))
            · skip
              refine gen_exit (w := wq) (b := pB) (x := .cells (ec (y')) 26 (0, 0)) (by (repeat' (first | with_reducible exact Chg.refl _ _ | with_reducible assumption | with_reducible refine Chg.drew ?_ | with_reducible refine Chg.drewN ?_ _ | with_reducible refine Chg.alloc ?_ _ | with_reducible refine Chg.putRow ?_ _ _ _ (.inr ?_) | with_reducible refine Chg.setCell ?_ _ _ _ (.inr ?_)  | with_reducible refine Chg.trans ?_ c3 | with_reducible refine Chg.trans (b := World.drew _) ?_ c3 | (show _ ≤ _; first | exact Nat.le_refl _ | omega | (simp; done))))) (by have kA' := kA (by first | exact rBq | (simp [rBq]; done)); have oA' := old kA'; simp [kA']) fun wz cZ rBz => ?_
              have rMz := Lib.hid (cZ.keep rMq.out (by simp))
              have rAz := cZ.keep rAq (by simp)
              have slz := Lib.hid (slq.out.chg cZ (by simp))
              have HCz := Lib.hid (HCq.out.trans cZ)
              clear c3 rB2 kA kb kK cZ rAq rBq hbq rKq HCq slq TRk rMq orAq orBq ohbq orKq
              have oAz := old rAz
              have oBz := old rBz
              go_wp2_with fail
              go_roundw
              case rel => exact ⟨j + 1, y', by omega, by go_num, HCz.out.putRow pA 0 _ (.inr HPA.out), ((Chg.refl [pA] wz).putRow pA 0 _ (.inl (by simp))).keep rMz.out (by simpa using HMA.out), by simp [rAz], slz.out.chg0 ((Chg.refl [pA] wz).putRow pA 0 _ (.inl (by simp))) (by rw [HN.out]; exact AP'.out), HI'.out⟩
              case measure => simp [intOf]; omega
            · skip
              refine gen_exit (w := wq) (b := pB) (x := .cells (ec (y')) 26 (0, 0)) (by (repeat' (first | with_reducible exact Chg.refl _ _ | with_reducible assumption | with_reducible refine Chg.drew ?_ | with_reducible refine Chg.drewN ?_ _ | with_reducible refine Chg.alloc ?_ _ | with_reducible refine Chg.putRow ?_ _ _ _ (.inr ?_) | with_reducible refine Chg.setCell ?_ _ _ _ (.inr ?_)  | with_reducible refine Chg.trans ?_ c3 | with_reducible refine Chg.trans (b := World.drew _) ?_ c3 | (show _ ≤ _; first | exact Nat.le_refl _ | omega | (simp; done))))) (Chg.keep ((Chg.refl [wq.heap.size] w').putRow wq.heap.size 0 _ (.inl (by simp))) (kA (by first | exact rBq | (simp [rBq]; done))) (by have := orBq.lt; simp; omega)) fun wz cZ rBz => ?_
              have rMz := Lib.hid (cZ.keep rMq.out (by simp))
              have rAz := cZ.keep rAq (by simp)
              have slz := Lib.hid (slq.out.chg cZ (by simp))
              have HCz := Lib.hid (HCq.out.trans cZ)
              clear c3 rB2 kA kb kK cZ rAq rBq hbq rKq HCq slq TRk rMq orAq orBq ohbq orKq
              have oAz := old rAz
              have oBz := old rBz
              go_wp2_with fail
              go_roundw
              case rel => exact ⟨j + 1, y', by omega, by go_num, HCz.out.putRow pA 0 _ (.inr HPA.out), ((Chg.refl [pA] wz).putRow pA 0 _ (.inl (by simp))).keep rMz.out (by simpa using HMA.out), by simp [rAz], slz.out.chg0 ((Chg.refl [pA] wz).putRow pA 0 _ (.inl (by simp))) (by rw [HN.out]; exact AP'.out), HI'.out⟩
              case measure => simp [intOf]; omega
          · have hm1 : ¬ ((j : Int) + 1 < (N : Int)) := by omega
            clear HM' hs2
            go_wp2_with fail
            have TRk := HT.out.keep HCq.out (by simp)
            go_region_held3 (fun w' => w'.heap[pB]? = some (.cells (ec (y')) 26 (0, 0)) ∧ w'.heap[b]? = some (.cells cs tt ff) ∧ w'.heap[pK]? = some (.cells (msc am) 28 (0, 0))) (first | exact ⟨rBq, hbq, rKq⟩ | exact ⟨kA (by (first | exact rBq | (simp [rBq]; done))), kb (by (first | exact hbq | (simp [hbq]; done))), kK (by (first | exact rKq | (simp [rKq]; done)))⟩ | (have kA' := kA (by (first | exact rBq | (simp [rBq]; done))); have kb' := kb (by (first | exact hbq | (simp [hbq]; done))); have kK' := kK (by (first | exact rKq | (simp [rKq]; done))); have oA' := old kA'; have ob' := old kb'; have oK' := old kK'; simp [kA', kb', kK']; done) | (exact ⟨(Chg.keep ((Chg.refl [wq.heap.size] w').putRow wq.heap.size 0 _ (.inl (by simp))) (kA (by (first | exact rBq | (simp [rBq]; done)))) (by have := orBq.lt; simp; omega)), (Chg.keep ((Chg.refl [wq.heap.size] w').putRow wq.heap.size 0 _ (.inl (by simp))) (kb (by (first | exact hbq | (simp [hbq]; done)))) (by have := ohbq.lt; simp; omega)), (Chg.keep ((Chg.refl [wq.heap.size] w').putRow wq.heap.size 0 _ (.inl (by simp))) (kK (by (first | exact rKq | (simp [rKq]; done)))) (by have := orKq.lt; simp; omega))⟩) | (simp [rBq, hbq, rKq]; done))
              ((go_at_call 21; refine (danswer_at _ _ _ _ hans2 _ ?_).mono ?_; exact (by first | exact TRk | exact TRk.keep ((Chg.refl [] _).alloc _) (by simp) | exact (TRk.keep (Chg.refl [] _).drew (by simp)) | exact (TRk.keep ((Chg.refl [] _).drew.alloc _) (by simp))); rintro e w' ⟨A3, n3, rfl, hs3, _, c3⟩; (have rB2 := fun h => c3.keep (x := .cells (ec (enZ)) 26 (0, 0)) (k := wq.heap.size) h (by simp)); (have kA := fun h => c3.keep (x := .cells (ec (y')) 26 (0, 0)) (k := pB) h (by simp)); (have kb := fun h => c3.keep (x := .cells cs tt ff) (k := b) h (by simp)); (have kK := fun h => c3.keep (x := .cells (msc am) 28 (0, 0)) (k := pK) h (by simp))))
            · skip
              refine gen_exit (w := wq) (b := pB) (x := .cells (ec (y')) 26 (0, 0)) (by (repeat' (first | with_reducible exact Chg.refl _ _ | with_reducible assumption | with_reducible refine Chg.drew ?_ | with_reducible refine Chg.drewN ?_ _ | with_reducible refine Chg.alloc ?_ _ | with_reducible refine Chg.putRow ?_ _ _ _ (.inr ?_) | with_reducible refine Chg.setCell ?_ _ _ _ (.inr ?_)  | with_reducible refine Chg.trans ?_ c3 | with_reducible refine Chg.trans (b := World.drew _) ?_ c3 | (show _ ≤ _; first | exact Nat.le_refl _ | omega | (simp; done))))) (by have kA' := kA (by first | exact rBq | (simp [rBq]; done)); have oA' := old kA'; simp [kA']) fun wz cZ rBz => ?_
              have rMz := Lib.hid (cZ.keep rMq.out (by simp))
              have rAz := cZ.keep rAq (by simp)
              have slz := Lib.hid (slq.out.chg cZ (by simp))
              have HCz := Lib.hid (HCq.out.trans cZ)
              clear c3 rB2 kA kb kK cZ rAq rBq hbq rKq HCq slq TRk rMq orAq orBq ohbq orKq
              have oAz := old rAz
              have oBz := old rBz
              go_wp2_with fail
              go_roundw
              case rel => exact ⟨j + 1, y', by omega, by go_num, HCz.out.putRow pA 0 _ (.inr HPA.out), ((Chg.refl [pA] wz).putRow pA 0 _ (.inl (by simp))).keep rMz.out (by simpa using HMA.out), by simp [rAz], slz.out.chg0 ((Chg.refl [pA] wz).putRow pA 0 _ (.inl (by simp))) (by rw [HN.out]; exact AP'.out), HI'.out⟩
              case measure => simp [intOf]; omega
            · skip
              refine gen_exit (w := wq) (b := pB) (x := .cells (ec (y')) 26 (0, 0)) (by (repeat' (first | with_reducible exact Chg.refl _ _ | with_reducible assumption | with_reducible refine Chg.drew ?_ | with_reducible refine Chg.drewN ?_ _ | with_reducible refine Chg.alloc ?_ _ | with_reducible refine Chg.putRow ?_ _ _ _ (.inr ?_) | with_reducible refine Chg.setCell ?_ _ _ _ (.inr ?_)  | with_reducible refine Chg.trans ?_ c3 | with_reducible refine Chg.trans (b := World.drew _) ?_ c3 | (show _ ≤ _; first | exact Nat.le_refl _ | omega | (simp; done))))) (Chg.keep ((Chg.refl [wq.heap.size] w').putRow wq.heap.size 0 _ (.inl (by simp))) (kA (by first | exact rBq | (simp [rBq]; done))) (by have := orBq.lt; simp; omega)) fun wz cZ rBz => ?_
              have rMz := Lib.hid (cZ.keep rMq.out (by simp))
              have rAz := cZ.keep rAq (by simp)
              have slz := Lib.hid (slq.out.chg cZ (by simp))
              have HCz := Lib.hid (HCq.out.trans cZ)
              clear c3 rB2 kA kb kK cZ rAq rBq hbq rKq HCq slq TRk rMq orAq orBq ohbq orKq
              have oAz := old rAz
              have oBz := old rBz
              go_wp2_with fail
              go_roundw
              case rel => exact ⟨j + 1, y', by omega, by go_num, HCz.out.putRow pA 0 _ (.inr HPA.out), ((Chg.refl [pA] wz).putRow pA 0 _ (.inl (by simp))).keep rMz.out (by simpa using HMA.out), by simp [rAz], slz.out.chg0 ((Chg.refl [pA] wz).putRow pA 0 _ (.inl (by simp))) (by rw [HN.out]; exact AP'.out), HI'.out⟩
              case measure => simp [intOf]; omega
      · have hjN : j = N := by omega
        have hinv := HI.out
        rw [hjN, show N = (coresL o).reverse.length from by rw [List.length_reverse]; exact HN.out] at hinv
        clear HI HSL
        subst hjN
        have TRj := Lib.hid (HT.out.keep HC.out (by simp))
        have oMr := old rMr
        have oAr := old rAr
        rcases HK.out with ⟨hkd, hon⟩ | ⟨hkd, hoo⟩
        · rw [hkd] at hinv
          obtain ⟨z1, z2, z3⟩ := ended_getS (rev_ord o) hon hcc hinv
          clear hinv
          have k2 : (m.kd == 2) = false := by rw [hkd]; rfl
          have k1 : (m.kd == 1) = true := by rw [hkd]; rfl
          have z4 : (y.sh &&& bitM c != 0#8) = true := by
            exact z3
          clear z3
          go_wp2_with fail
          refine gen_world1 (w := w) (b1 := pA) (x1 := .cells (ec (y)) 26 (0, 0)) (by have := HC.out; (repeat' (first | with_reducible exact Chg.refl _ _ | with_reducible assumption | with_reducible refine Chg.drew ?_ | with_reducible refine Chg.drewN ?_ _ | with_reducible refine Chg.alloc ?_ _ | with_reducible refine Chg.putRow ?_ _ _ _ (.inr ?_) | with_reducible refine Chg.setCell ?_ _ _ _ (.inr ?_)  | (show _ ≤ _; first | exact Nat.le_refl _ | omega | (simp; done))))) (by first | exact rAr | (simp [rAr]; done)) fun w6 C6 rA6 => ?_
          have hy : ∀ z : Aft w6.heap.size w6, z.w.heap[pA]? = some (.cells (ec (y)) 26 (0, 0)) := fun z => (z.block (old rA6).lt).trans rA6
          have HX := Lib.hid (show ∀ z : Aft w6.heap.size w6, Tab z.w from fun z => (HT.out.keep C6 (by simp)).keep (Below.chg z.below (Nat.le_refl _)) (by simp))
          have HC6 := Lib.hid C6
          clear C6 rAr oAr rMr oMr HC TRj
          refine wp_region_aft w6.heap.size (by kernel_rfl) (by kernel_rfl) ?_
          repeat (go_big_quiet_step (first
            | (go_at_call 26; exact calls_aft_same (rbit_any _ _))
            | (go_at_call 20; exact calls_aftR (Nat.le_refl _) (dwakes _ (HX.out _)))))
          refine wpQuiet_nil ?_
          rintro _ ⟨z, rfl⟩
          go_wp2_with fail
          go_ret
          exact ⟨by simp, HC6.out.trans (Below.chg z.below (Nat.le_refl _))⟩
        · rw [hkd] at hinv
          obtain ⟨q1, q2, q3, _⟩ := ended_flush (rev_ord o) (.inl rfl) hcc (fun h => own_none hgp (hoo ▸ h)) hinv
          clear hinv
          have k2 : (m.kd == 2) = false := by rw [hkd]; rfl
          have k1 : (m.kd == 1) = false := by rw [hkd]; rfl
          have k5 : (m.kd != 5) = true := by rw [hkd]; rfl
          skip
          clear q3
          go_wp2_with fail
          refine (dready_at y true q1 wr).mono ?_
          rintro e w6 ⟨rfl, c6⟩
          have rA6 := c6.keep rAr (by simp)
          have oA6 := old rA6
          have C6 := Lib.hid (HC.out.trans c6)
          clear c6 rAr oAr rMr oMr HC TRj
          go_wp2_with (go_at_call 20; refine (dwakes _ (HT.out.keep C6.out (by simp))).mono ?_; rintro e w9 ⟨rfl, c9⟩)
          go_ret
          exact ⟨by simp, C6.out.trans c9⟩

set_option maxHeartbeats 8000000 in
set_option maxRecDepth 100000 in
theorem dends_12f (x : En) (c : Int) (m : Ms) (w : World) (ht : Tab w) (h0 : ((askE x c m).2 != 0) = false) (tb : ((askE x c m).1.1.bu == 0) = false) (hhe : x.he = true) (hgp : Gp x) (hcc : isC c = true) (hli : lineB m.li = true) (o : Mk) (hask : askE x c m = (waitE x c m o 12, 0)) (hho : ∀ k : Nat, k < 8 → hasM o k = true → hasM x.sh k = true ∨ x.ow = (k : Int)) (hkd : (m.kd = 2 ∧ o ≠ 0#8) ∨ (m.kd = 5 ∧ o = holders x)) (hbit : (bitM c == 0#8) = false) : Calls Tryd.prog 6 #[.agg (ec x), .int .i64 c, .agg (wyc m false)] w fun e w' => e = .returned (.bool true) ∧ Chg [] w w' := by
  have HT := Lib.hid ht
  have HK := Lib.hid hkd
  clear ht hkd
  go_enter Tryd.func6, Tryd.ntmps6
  try dsimp only [List.append]
  go_wp2_with fail
  refine gen_world2 (w := w) (b1 := w.heap.size) (x1 := .cells (ec (x)) 26 (0, 0)) (b2 := w.heap.size + 1) (x2 := .cells (wyc m false) 50 (0, 0)) (by (repeat' (first | with_reducible exact Chg.refl _ _ | with_reducible assumption | with_reducible refine Chg.drew ?_ | with_reducible refine Chg.drewN ?_ _ | with_reducible refine Chg.alloc ?_ _ | with_reducible refine Chg.putRow ?_ _ _ _ (.inr ?_) | with_reducible refine Chg.setCell ?_ _ _ _ (.inr ?_)  | (show _ ≤ _; first | exact Nat.le_refl _ | omega | (simp; done))))) (by simp [*]) (by simp [*]) fun w1 C1 rE rW => ?_
  have oE := old rE
  have oW := old rW
  have HC1 := Lib.hid C1
  clear C1
  go_region_held3 (fun w' => w'.heap[w.heap.size + 1]? = some (.cells (wyc m false) 50 (0, 0))) (first | exact rW | (simp [*]; done)) (fail)
  all_goals
    go_wp2_with fail
    refine gen_calls3 (w := w) (b1 := w.heap.size) (x1 := .cells (ec (x)) 26 (0, 0)) (b2 := w.heap.size + 1) (x2 := .cells (wyc m false) 50 (0, 0)) (b3 := w1.heap.size) (x3 := .cells (msc m) 28 (0, 0)) (by have := HC1.out; have hz := HC1.out.size; (repeat' (first | with_reducible exact Chg.refl _ _ | with_reducible assumption | with_reducible refine Chg.drew ?_ | with_reducible refine Chg.drewN ?_ _ | with_reducible refine Chg.alloc ?_ _ | with_reducible refine Chg.putRow ?_ _ _ _ (.inr ?_) | with_reducible refine Chg.setCell ?_ _ _ _ (.inr ?_)  | (show _ ≤ _; first | exact Nat.le_refl _ | omega | (simp; done))))) (by simp [*]) (by simp [*]) (by simp [*]) fun w2 C2' rE2 rW2 rM => ?_
    have C2 := Lib.hid C2'
    clear C2' HC1 rE rW oE oW
    generalize w1.heap.size = pM at rM ⊢
    have hc := dask_any x c m w2 (HT.out.keep C2.out (by simp))
    refine hc.mono ?_
    clear hc
    rintro e w4 ⟨A, n1, rfl, hs, _, c4⟩
    have rM4 := c4.keep rM (by simp)
    have C4 := Lib.hid (C2.out.trans c4)
    have AP := Lib.hid hs.apart
    have SS := Lib.hid hs
    clear hs c4 C2 rM rE2 rW2
    have oM := old rM4
    rw [hask] at SS AP ⊢
    have HPA := Lib.hid (show w.heap.size ≤ w4.heap.size from C4.out.size)
    have HMA := Lib.hid (show pM ≠ w4.heap.size from Nat.ne_of_lt oM.lt)
    have v1 : (waitE x c m o 12).1.bu = m.kd := rfl
    have v3 : (waitE x c m o 12).1.wa = o := rfl
    have v4 : (m.kd == 0) = false := by rcases HK.out with ⟨h, _⟩ | ⟨h, _⟩ <;> rw [h] <;> rfl
    have hlen := tell_length o (ms4 12 m.li false false)
    have h8 : (coresL o).length ≤ 8 := coresTo_len _ 8
    have I0 := Lib.hid (show Inv7 x o m.kd c m.li false (coresL o) 0 (waitE x c m o 12).1 from Inv7.start hhe hgp c hcc m o 12 (by simp) false (coresL o) (cores_ord o) hho (by rcases HK.out with ⟨h, h2⟩ | ⟨h, _⟩ <;> simp [h] <;> exact h2))
    go_wp2_with (go_at_call 26; refine (rbit_any _ _).mono ?_; rintro e w' ⟨rfl, rfl⟩; (try rw [hbit]))
    refine gen_calls2 (w := w4) (b1 := pM) (x1 := .cells (msc m) 28 (0, 0)) (b2 := w4.heap.size) (x2 := .cells (ec ((waitE x c m o 12).1)) 26 (0, 0)) (by (repeat' (first | with_reducible exact Chg.refl _ _ | with_reducible assumption | with_reducible refine Chg.drew ?_ | with_reducible refine Chg.drewN ?_ _ | with_reducible refine Chg.alloc ?_ _ | with_reducible refine Chg.putRow ?_ _ _ _ (.inr ?_) | with_reducible refine Chg.setCell ?_ _ _ _ (.inr ?_)  | (show _ ≤ _; first | exact Nat.le_refl _ | omega | (simp; done))))) (by simp [*]) (by simp) fun w5 cA rM5 rA5 => ?_
    have S5 := Lib.hid (SS.out.chg cA (by simp))
    have C5 := Lib.hid (C4.out.trans cA)
    clear cA SS C4 rM4 oM
    generalize w4.heap.size = pA at rA5 AP HPA HMA ⊢
    refine (rcores_any o w5 (HT.out.keep C5.out (by simp)).old).mono ?_
    rintro e w6 ⟨B, cB, rfl, hsB, _, c6⟩
    have rM := c6.keep rM5 (by simp)
    have rA := c6.keep rA5 (by simp)
    have S6 := S5.out.chg c6 (by simp)
    have C6 := Lib.hid (C5.out.trans c6)
    clear hsB c6 rM5 rA5 S5 C5
    have oM := old rM
    have oA := old rA
    have SS' := Lib.hid (show Sl w6 13 A (coresL o).length (cat Sd.enc (tellL o (ms4 12 m.li false false))) by rw [← hlen]; exact S6)
    have AP' := Lib.hid (show (coresL o).length = 0 ∨ ∀ a, A = some a → a.block ≠ pA by rw [← hlen]; exact AP.out)
    rw [show (waitE x c m o 12).2.length = (coresL o).length from hlen]
    clear S6 AP hlen hask tb
    generalize (waitE x c m o 12).1 = a0 at rA I0 v1 v3 ⊢
    obtain ⟨N, hN⟩ : ∃ N, N = (coresL o).length := ⟨_, rfl⟩
    rw [← hN] at h8 ⊢
    have HN := Lib.hid hN
    clear hN
    have tn : ((N : Int) != (N : Int)) = false := by simp
    go_wp2_with fail
    go_loopw [13] (fun i wr => ∃ (j : Nat) (y : En), j ≤ N ∧ i = .int .i64 j ∧ Chg [] w wr ∧ wr.heap[pM]? = some (.cells (msc m) 28 (0, 0)) ∧ wr.heap[pA]? = some (.cells (ec (y)) 26 (0, 0)) ∧ Sl wr 13 A N (cat Sd.enc (tellL o (ms4 12 m.li false false))) ∧ Inv7 x o m.kd c m.li false (coresL o) j y) (fun i _ => N - (intOf i).toNat)
    case atStart => exact ⟨0, a0, by omega, rfl, C6.out, rM, rA, by rw [HN.out]; exact SS'.out, I0.out⟩
    case round =>
      obtain ⟨j, y, hj, rfl, hc, rMr, rAr, hsl, hinv⟩ := hrel
      have HC := Lib.hid hc
      have HI := Lib.hid hinv
      have HSL := Lib.hid hsl
      clear hc hinv hsl
      have g0 : (0 : Int) ≤ (j : Int) := by omega
      have gN : (N : Int) ≤ 8 := by omega
      by_cases hlt : j < N
      · have hlo : (coresL o).length = N := by exact HN.out.symm
        obtain ⟨d, hd⟩ : ∃ d, (coresL o)[j]? = some d := ⟨(coresL o)[j]'(by rw [hlo]; exact hlt), List.getElem?_eq_getElem _⟩
        obtain ⟨y', ss', hans, hinv', hmore, hno⟩ := HI.out.step (cores_ord o) (by rw [hlo]; exact hlt) (ms4 6 m.li false false) (am_inv m.li hli) hd
        obtain ⟨zz, tz, n2c, hn2, hans2⟩ : ∃ (e : En) (t : List Sd) (n : Int), (n == 0) = false ∧ ansE y' d (ms4 6 m.li false false) = ((e, t), n) := by
          rcases ansE_again (am := (ms4 6 m.li false false)) hno with h | h
          · exact ⟨_, _, 1, rfl, h⟩
          · exact ⟨_, _, 16, rfl, h⟩
        rw [hlo] at hmore
        have HI' := Lib.hid hinv'
        have HM' := Lib.hid hmore
        have hqd : (coresL o)[j]? = some d := hd
        obtain ⟨b, off, cs, tt, ff, rfl, hb, i0, i1, _, _⟩ := HSL.out.sd (tell_at (m := ms4 12 m.li false false) hqd)
        have g1' : (j : Int) < (N : Int) := by omega
        have oMr := old rMr
        have oAr := old rAr
        have obr := old hb
        have i1' : cs[off + j * 13 + 1]? = some (.int .i64 12) := i1
        clear hinv' hmore hno hd hqd i1
        go_wp2_with fail
        obtain ⟨am, ham⟩ : ∃ z, z = (ms4 6 m.li false false) := ⟨_, rfl⟩
        rw [← ham] at hans hans2
        refine gen_world3 (w := wr) (b1 := pA) (x1 := .cells (ec (y)) 26 (0, 0)) (b2 := b) (x2 := .cells cs tt ff) (b3 := wr.heap.size) (x3 := .cells (msc am) 28 (0, 0)) (by (repeat' (first | with_reducible exact Chg.refl _ _ | with_reducible assumption | with_reducible refine Chg.drew ?_ | with_reducible refine Chg.drewN ?_ _ | with_reducible refine Chg.alloc ?_ _ | with_reducible refine Chg.putRow ?_ _ _ _ (.inr ?_) | with_reducible refine Chg.setCell ?_ _ _ _ (.inr ?_)  | (show _ ≤ _; first | exact Nat.le_refl _ | omega | (simp; done))))) (by simp [*]) (by simp [*]) (by rw [ham, ← ms4_lit]; simp) fun wk cK rAk hbk rKk => ?_
        have rMk := Lib.hid (cK.keep rMr (by simp))
        have slk := Lib.hid (HSL.out.chg cK (by simp))
        have HCk := Lib.hid (HC.out.trans cK)
        have TRk := HT.out.keep HCk.out (by simp)
        clear cK HC HSL HI rMr rAr hb oMr oAr obr ham
        generalize wr.heap.size = pK at rKk ⊢
        have orAk := old rAk
        have ohbk := old hbk
        have orKk := old rKk
        go_region_held3 (fun w' => w'.heap[pA]? = some (.cells (ec (y)) 26 (0, 0)) ∧ w'.heap[b]? = some (.cells cs tt ff) ∧ w'.heap[pK]? = some (.cells (msc am) 28 (0, 0))) (first | exact ⟨rAk, hbk, rKk⟩ | exact ⟨kA (by (first | exact rAk | (simp [rAk]; done))), kb (by (first | exact hbk | (simp [hbk]; done))), kK (by (first | exact rKk | (simp [rKk]; done)))⟩ | (have kA' := kA (by (first | exact rAk | (simp [rAk]; done))); have kb' := kb (by (first | exact hbk | (simp [hbk]; done))); have kK' := kK (by (first | exact rKk | (simp [rKk]; done))); have oA' := old kA'; have ob' := old kb'; have oK' := old kK'; simp [kA', kb', kK']; done) | (exact ⟨(Chg.keep ((Chg.refl [wk.heap.size] w').putRow wk.heap.size 0 _ (.inl (by simp))) (kA (by (first | exact rAk | (simp [rAk]; done)))) (by have := orAk.lt; simp; omega)), (Chg.keep ((Chg.refl [wk.heap.size] w').putRow wk.heap.size 0 _ (.inl (by simp))) (kb (by (first | exact hbk | (simp [hbk]; done)))) (by have := ohbk.lt; simp; omega)), (Chg.keep ((Chg.refl [wk.heap.size] w').putRow wk.heap.size 0 _ (.inl (by simp))) (kK (by (first | exact rKk | (simp [rKk]; done)))) (by have := orKk.lt; simp; omega))⟩) | (simp [rAk, hbk, rKk]; done))
          ((go_at_call 21; refine (danswer_at _ _ _ _ hans _ ?_).mono ?_; exact (by first | exact TRk | exact TRk.keep ((Chg.refl [] _).alloc _) (by simp) | exact (TRk.keep (Chg.refl [] _).drew (by simp)) | exact (TRk.keep ((Chg.refl [] _).drew.alloc _) (by simp))); rintro e w' ⟨A2, n2, rfl, hs2, _, c2⟩; (have rB2 := fun h => c2.keep (x := .cells (ec (enZ)) 26 (0, 0)) (k := wk.heap.size) h (by simp)); (have kA := fun h => c2.keep (x := .cells (ec (y)) 26 (0, 0)) (k := pA) h (by simp)); (have kb := fun h => c2.keep (x := .cells cs tt ff) (k := b) h (by simp)); (have kK := fun h => c2.keep (x := .cells (msc am) 28 (0, 0)) (k := pK) h (by simp))))
        · skip
          refine gen_exit (w := wk) (b := w'.heap.size) (x := .cells (ec (y')) 26 (0, 0)) (by (repeat' (first | with_reducible exact Chg.refl _ _ | with_reducible assumption | with_reducible refine Chg.drew ?_ | with_reducible refine Chg.drewN ?_ _ | with_reducible refine Chg.alloc ?_ _ | with_reducible refine Chg.putRow ?_ _ _ _ (.inr ?_) | with_reducible refine Chg.setCell ?_ _ _ _ (.inr ?_)  | with_reducible refine Chg.trans ?_ c2 | with_reducible refine Chg.trans (b := World.drew _) ?_ c2 | (show _ ≤ _; first | exact Nat.le_refl _ | omega | (simp; done))))) (by first | (simp; done) | (simp [rB2 (by simp)]; done)) fun wq cW rBq => ?_
          generalize w'.heap.size = pB at rBq ⊢
          have rMq := Lib.hid (cW.keep rMk.out (by simp))
          have rAq := cW.keep rAk (by simp)
          have hbq := cW.keep hbk (by simp)
          have rKq := cW.keep rKk (by simp)
          have slq := Lib.hid (slk.out.chg cW (by simp))
          have HCq := Lib.hid (HCk.out.trans cW)
          clear c2 rB2 kA kb kK cW rAk hbk rKk HCk slk TRk rMk orAk ohbk orKk
          have orAq := old rAq
          have orBq := old rBq
          have ohbq := old hbq
          have orKq := old rKq
          by_cases hm : j + 1 < N
          · obtain ⟨rfl, e2⟩ := HM'.out hm
            have hm1 : (j : Int) + 1 < (N : Int) := by omega
            clear HM' hs2
            go_wp2_with fail
            have TRk := HT.out.keep HCq.out (by simp)
            go_region_held3 (fun w' => w'.heap[pB]? = some (.cells (ec (y')) 26 (0, 0)) ∧ w'.heap[b]? = some (.cells cs tt ff) ∧ w'.heap[pK]? = some (.cells (msc am) 28 (0, 0))) (first | exact ⟨rBq, hbq, rKq⟩ | exact ⟨kA (by (first | exact rBq | (simp [rBq]; done))), kb (by (first | exact hbq | (simp [hbq]; done))), kK (by (first | exact rKq | (simp [rKq]; done)))⟩ | (have kA' := kA (by (first | exact rBq | (simp [rBq]; done))); have kb' := kb (by (first | exact hbq | (simp [hbq]; done))); have kK' := kK (by (first | exact rKq | (simp [rKq]; done))); have oA' := old kA'; have ob' := old kb'; have oK' := old kK'; simp [kA', kb', kK']; done) | (exact ⟨(Chg.keep ((Chg.refl [wq.heap.size] w').putRow wq.heap.size 0 _ (.inl (by simp))) (kA (by (first | exact rBq | (simp [rBq]; done)))) (by have := orBq.lt; simp; omega)), (Chg.keep ((Chg.refl [wq.heap.size] w').putRow wq.heap.size 0 _ (.inl (by simp))) (kb (by (first | exact hbq | (simp [hbq]; done)))) (by have := ohbq.lt; simp; omega)), (Chg.keep ((Chg.refl [wq.heap.size] w').putRow wq.heap.size 0 _ (.inl (by simp))) (kK (by (first | exact rKq | (simp [rKq]; done)))) (by have := orKq.lt; simp; omega))⟩) | (simp [rBq, hbq, rKq]; done))
              ((go_at_call 21; refine (danswer_at _ _ _ _ hans2 _ ?_).mono ?_; exact (by first | exact TRk | exact TRk.keep ((Chg.refl [] _).alloc _) (by simp) | exact (TRk.keep (Chg.refl [] _).drew (by simp)) | exact (TRk.keep ((Chg.refl [] _).drew.alloc _) (by simp))); rintro e w' ⟨A3, n3, rfl, hs3, _, c3⟩; (have rB2 := fun h => c3.keep (x := .cells (ec (enZ)) 26 (0, 0)) (k := wq.heap.size) h (by simp)); (have kA := fun h => c3.keep (x := .cells (ec (y')) 26 (0, 0)) (k := pB) h (by simp)); (have kb := fun h => c3.keep (x := .cells cs tt ff) (k := b) h (by simp)); (have kK := fun h => c3.keep (x := .cells (msc am) 28 (0, 0)) (k := pK) h (by simp))))
            · skip
              refine gen_exit (w := wq) (b := pB) (x := .cells (ec (y')) 26 (0, 0)) (by (repeat' (first | with_reducible exact Chg.refl _ _ | with_reducible assumption | with_reducible refine Chg.drew ?_ | with_reducible refine Chg.drewN ?_ _ | with_reducible refine Chg.alloc ?_ _ | with_reducible refine Chg.putRow ?_ _ _ _ (.inr ?_) | with_reducible refine Chg.setCell ?_ _ _ _ (.inr ?_)  | with_reducible refine Chg.trans ?_ c3 | with_reducible refine Chg.trans (b := World.drew _) ?_ c3 | (show _ ≤ _; first | exact Nat.le_refl _ | omega | (simp; done))))) (by have kA' := kA (by first | exact rBq | (simp [rBq]; done)); have oA' := old kA'; simp [kA']) fun wz cZ rBz => ?_
              have rMz := Lib.hid (cZ.keep rMq.out (by simp))
              have rAz := cZ.keep rAq (by simp)
              have slz := Lib.hid (slq.out.chg cZ (by simp))
              have HCz := Lib.hid (HCq.out.trans cZ)
              clear c3 rB2 kA kb kK cZ rAq rBq hbq rKq HCq slq TRk rMq orAq orBq ohbq orKq
              have oAz := old rAz
              have oBz := old rBz
              go_wp2_with fail
              go_roundw
              case rel => exact ⟨j + 1, y', by omega, by go_num, HCz.out.putRow pA 0 _ (.inr HPA.out), ((Chg.refl [pA] wz).putRow pA 0 _ (.inl (by simp))).keep rMz.out (by simpa using HMA.out), by simp [rAz], slz.out.chg0 ((Chg.refl [pA] wz).putRow pA 0 _ (.inl (by simp))) (by rw [HN.out]; exact AP'.out), HI'.out⟩
              case measure => simp [intOf]; omega
            · skip
              refine gen_exit (w := wq) (b := pB) (x := .cells (ec (y')) 26 (0, 0)) (by (repeat' (first | with_reducible exact Chg.refl _ _ | with_reducible assumption | with_reducible refine Chg.drew ?_ | with_reducible refine Chg.drewN ?_ _ | with_reducible refine Chg.alloc ?_ _ | with_reducible refine Chg.putRow ?_ _ _ _ (.inr ?_) | with_reducible refine Chg.setCell ?_ _ _ _ (.inr ?_)  | with_reducible refine Chg.trans ?_ c3 | with_reducible refine Chg.trans (b := World.drew _) ?_ c3 | (show _ ≤ _; first | exact Nat.le_refl _ | omega | (simp; done))))) (Chg.keep ((Chg.refl [wq.heap.size] w').putRow wq.heap.size 0 _ (.inl (by simp))) (kA (by first | exact rBq | (simp [rBq]; done))) (by have := orBq.lt; simp; omega)) fun wz cZ rBz => ?_
              have rMz := Lib.hid (cZ.keep rMq.out (by simp))
              have rAz := cZ.keep rAq (by simp)
              have slz := Lib.hid (slq.out.chg cZ (by simp))
              have HCz := Lib.hid (HCq.out.trans cZ)
              clear c3 rB2 kA kb kK cZ rAq rBq hbq rKq HCq slq TRk rMq orAq orBq ohbq orKq
              have oAz := old rAz
              have oBz := old rBz
              go_wp2_with fail
              go_roundw
              case rel => exact ⟨j + 1, y', by omega, by go_num, HCz.out.putRow pA 0 _ (.inr HPA.out), ((Chg.refl [pA] wz).putRow pA 0 _ (.inl (by simp))).keep rMz.out (by simpa using HMA.out), by simp [rAz], slz.out.chg0 ((Chg.refl [pA] wz).putRow pA 0 _ (.inl (by simp))) (by rw [HN.out]; exact AP'.out), HI'.out⟩
              case measure => simp [intOf]; omega
          · have hm1 : ¬ ((j : Int) + 1 < (N : Int)) := by omega
            clear HM' hs2
            go_wp2_with fail
            have TRk := HT.out.keep HCq.out (by simp)
            go_region_held3 (fun w' => w'.heap[pB]? = some (.cells (ec (y')) 26 (0, 0)) ∧ w'.heap[b]? = some (.cells cs tt ff) ∧ w'.heap[pK]? = some (.cells (msc am) 28 (0, 0))) (first | exact ⟨rBq, hbq, rKq⟩ | exact ⟨kA (by (first | exact rBq | (simp [rBq]; done))), kb (by (first | exact hbq | (simp [hbq]; done))), kK (by (first | exact rKq | (simp [rKq]; done)))⟩ | (have kA' := kA (by (first | exact rBq | (simp [rBq]; done))); have kb' := kb (by (first | exact hbq | (simp [hbq]; done))); have kK' := kK (by (first | exact rKq | (simp [rKq]; done))); have oA' := old kA'; have ob' := old kb'; have oK' := old kK'; simp [kA', kb', kK']; done) | (exact ⟨(Chg.keep ((Chg.refl [wq.heap.size] w').putRow wq.heap.size 0 _ (.inl (by simp))) (kA (by (first | exact rBq | (simp [rBq]; done)))) (by have := orBq.lt; simp; omega)), (Chg.keep ((Chg.refl [wq.heap.size] w').putRow wq.heap.size 0 _ (.inl (by simp))) (kb (by (first | exact hbq | (simp [hbq]; done)))) (by have := ohbq.lt; simp; omega)), (Chg.keep ((Chg.refl [wq.heap.size] w').putRow wq.heap.size 0 _ (.inl (by simp))) (kK (by (first | exact rKq | (simp [rKq]; done)))) (by have := orKq.lt; simp; omega))⟩) | (simp [rBq, hbq, rKq]; done))
              ((go_at_call 21; refine (danswer_at _ _ _ _ hans2 _ ?_).mono ?_; exact (by first | exact TRk | exact TRk.keep ((Chg.refl [] _).alloc _) (by simp) | exact (TRk.keep (Chg.refl [] _).drew (by simp)) | exact (TRk.keep ((Chg.refl [] _).drew.alloc _) (by simp))); rintro e w' ⟨A3, n3, rfl, hs3, _, c3⟩; (have rB2 := fun h => c3.keep (x := .cells (ec (enZ)) 26 (0, 0)) (k := wq.heap.size) h (by simp)); (have kA := fun h => c3.keep (x := .cells (ec (y')) 26 (0, 0)) (k := pB) h (by simp)); (have kb := fun h => c3.keep (x := .cells cs tt ff) (k := b) h (by simp)); (have kK := fun h => c3.keep (x := .cells (msc am) 28 (0, 0)) (k := pK) h (by simp))))
            · skip
              refine gen_exit (w := wq) (b := pB) (x := .cells (ec (y')) 26 (0, 0)) (by (repeat' (first | with_reducible exact Chg.refl _ _ | with_reducible assumption | with_reducible refine Chg.drew ?_ | with_reducible refine Chg.drewN ?_ _ | with_reducible refine Chg.alloc ?_ _ | with_reducible refine Chg.putRow ?_ _ _ _ (.inr ?_) | with_reducible refine Chg.setCell ?_ _ _ _ (.inr ?_)  | with_reducible refine Chg.trans ?_ c3 | with_reducible refine Chg.trans (b := World.drew _) ?_ c3 | (show _ ≤ _; first | exact Nat.le_refl _ | omega | (simp; done))))) (by have kA' := kA (by first | exact rBq | (simp [rBq]; done)); have oA' := old kA'; simp [kA']) fun wz cZ rBz => ?_
              have rMz := Lib.hid (cZ.keep rMq.out (by simp))
              have rAz := cZ.keep rAq (by simp)
              have slz := Lib.hid (slq.out.chg cZ (by simp))
              have HCz := Lib.hid (HCq.out.trans cZ)
              clear c3 rB2 kA kb kK cZ rAq rBq hbq rKq HCq slq TRk rMq orAq orBq ohbq orKq
              have oAz := old rAz
              have oBz := old rBz
              go_wp2_with fail
              go_roundw
              case rel => exact ⟨j + 1, y', by omega, by go_num, HCz.out.putRow pA 0 _ (.inr HPA.out), ((Chg.refl [pA] wz).putRow pA 0 _ (.inl (by simp))).keep rMz.out (by simpa using HMA.out), by simp [rAz], slz.out.chg0 ((Chg.refl [pA] wz).putRow pA 0 _ (.inl (by simp))) (by rw [HN.out]; exact AP'.out), HI'.out⟩
              case measure => simp [intOf]; omega
            · skip
              refine gen_exit (w := wq) (b := pB) (x := .cells (ec (y')) 26 (0, 0)) (by (repeat' (first | with_reducible exact Chg.refl _ _ | with_reducible assumption | with_reducible refine Chg.drew ?_ | with_reducible refine Chg.drewN ?_ _ | with_reducible refine Chg.alloc ?_ _ | with_reducible refine Chg.putRow ?_ _ _ _ (.inr ?_) | with_reducible refine Chg.setCell ?_ _ _ _ (.inr ?_)  | with_reducible refine Chg.trans ?_ c3 | with_reducible refine Chg.trans (b := World.drew _) ?_ c3 | (show _ ≤ _; first | exact Nat.le_refl _ | omega | (simp; done))))) (Chg.keep ((Chg.refl [wq.heap.size] w').putRow wq.heap.size 0 _ (.inl (by simp))) (kA (by first | exact rBq | (simp [rBq]; done))) (by have := orBq.lt; simp; omega)) fun wz cZ rBz => ?_
              have rMz := Lib.hid (cZ.keep rMq.out (by simp))
              have rAz := cZ.keep rAq (by simp)
              have slz := Lib.hid (slq.out.chg cZ (by simp))
              have HCz := Lib.hid (HCq.out.trans cZ)
              clear c3 rB2 kA kb kK cZ rAq rBq hbq rKq HCq slq TRk rMq orAq orBq ohbq orKq
              have oAz := old rAz
              have oBz := old rBz
              go_wp2_with fail
              go_roundw
              case rel => exact ⟨j + 1, y', by omega, by go_num, HCz.out.putRow pA 0 _ (.inr HPA.out), ((Chg.refl [pA] wz).putRow pA 0 _ (.inl (by simp))).keep rMz.out (by simpa using HMA.out), by simp [rAz], slz.out.chg0 ((Chg.refl [pA] wz).putRow pA 0 _ (.inl (by simp))) (by rw [HN.out]; exact AP'.out), HI'.out⟩
              case measure => simp [intOf]; omega
        · skip
          refine gen_exit (w := wk) (b := wk.heap.size) (x := .cells (ec (y')) 26 (0, 0)) (by (repeat' (first | with_reducible exact Chg.refl _ _ | with_reducible assumption | with_reducible refine Chg.drew ?_ | with_reducible refine Chg.drewN ?_ _ | with_reducible refine Chg.alloc ?_ _ | with_reducible refine Chg.putRow ?_ _ _ _ (.inr ?_) | with_reducible refine Chg.setCell ?_ _ _ _ (.inr ?_)  | with_reducible refine Chg.trans ?_ c2 | with_reducible refine Chg.trans (b := World.drew _) ?_ c2 | (show _ ≤ _; first | exact Nat.le_refl _ | omega | (simp; done))))) (by first | (simp; done) | (simp [rB2 (by simp)]; done)) fun wq cW rBq => ?_
          generalize wk.heap.size = pB at rBq ⊢
          have rMq := Lib.hid (cW.keep rMk.out (by simp))
          have rAq := cW.keep rAk (by simp)
          have hbq := cW.keep hbk (by simp)
          have rKq := cW.keep rKk (by simp)
          have slq := Lib.hid (slk.out.chg cW (by simp))
          have HCq := Lib.hid (HCk.out.trans cW)
          clear c2 rB2 kA kb kK cW rAk hbk rKk HCk slk TRk rMk orAk ohbk orKk
          have orAq := old rAq
          have orBq := old rBq
          have ohbq := old hbq
          have orKq := old rKq
          by_cases hm : j + 1 < N
          · obtain ⟨rfl, e2⟩ := HM'.out hm
            have hm1 : (j : Int) + 1 < (N : Int) := by omega
            clear HM' hs2
            go_wp2_with fail
            have TRk := HT.out.keep HCq.out (by simp)
            go_region_held3 (fun w' => w'.heap[pB]? = some (.cells (ec (y')) 26 (0, 0)) ∧ w'.heap[b]? = some (.cells cs tt ff) ∧ w'.heap[pK]? = some (.cells (msc am) 28 (0, 0))) (first | exact ⟨rBq, hbq, rKq⟩ | exact ⟨kA (by (first | exact rBq | (simp [rBq]; done))), kb (by (first | exact hbq | (simp [hbq]; done))), kK (by (first | exact rKq | (simp [rKq]; done)))⟩ | (have kA' := kA (by (first | exact rBq | (simp [rBq]; done))); have kb' := kb (by (first | exact hbq | (simp [hbq]; done))); have kK' := kK (by (first | exact rKq | (simp [rKq]; done))); have oA' := old kA'; have ob' := old kb'; have oK' := old kK'; simp [kA', kb', kK']; done) | (exact ⟨(Chg.keep ((Chg.refl [wq.heap.size] w').putRow wq.heap.size 0 _ (.inl (by simp))) (kA (by (first | exact rBq | (simp [rBq]; done)))) (by have := orBq.lt; simp; omega)), (Chg.keep ((Chg.refl [wq.heap.size] w').putRow wq.heap.size 0 _ (.inl (by simp))) (kb (by (first | exact hbq | (simp [hbq]; done)))) (by have := ohbq.lt; simp; omega)), (Chg.keep ((Chg.refl [wq.heap.size] w').putRow wq.heap.size 0 _ (.inl (by simp))) (kK (by (first | exact rKq | (simp [rKq]; done)))) (by have := orKq.lt; simp; omega))⟩) | (simp [rBq, hbq, rKq]; done))
              ((go_at_call 21; refine (danswer_at _ _ _ _ hans2 _ ?_).mono ?_; exact (by first | exact TRk | exact TRk.keep ((Chg.refl [] _).alloc _) (by simp) | exact (TRk.keep (Chg.refl [] _).drew (by simp)) | exact (TRk.keep ((Chg.refl [] _).drew.alloc _) (by simp))); rintro e w' ⟨A3, n3, rfl, hs3, _, c3⟩; (have rB2 := fun h => c3.keep (x := .cells (ec (enZ)) 26 (0, 0)) (k := wq.heap.size) h (by simp)); (have kA := fun h => c3.keep (x := .cells (ec (y')) 26 (0, 0)) (k := pB) h (by simp)); (have kb := fun h => c3.keep (x := .cells cs tt ff) (k := b) h (by simp)); (have kK := fun h => c3.keep (x := .cells (msc am) 28 (0, 0)) (k := pK) h (by simp))))
            · skip
              refine gen_exit (w := wq) (b := pB) (x := .cells (ec (y')) 26 (0, 0)) (by (repeat' (first | with_reducible exact Chg.refl _ _ | with_reducible assumption | with_reducible refine Chg.drew ?_ | with_reducible refine Chg.drewN ?_ _ | with_reducible refine Chg.alloc ?_ _ | with_reducible refine Chg.putRow ?_ _ _ _ (.inr ?_) | with_reducible refine Chg.setCell ?_ _ _ _ (.inr ?_)  | with_reducible refine Chg.trans ?_ c3 | with_reducible refine Chg.trans (b := World.drew _) ?_ c3 | (show _ ≤ _; first | exact Nat.le_refl _ | omega | (simp; done))))) (by have kA' := kA (by first | exact rBq | (simp [rBq]; done)); have oA' := old kA'; simp [kA']) fun wz cZ rBz => ?_
              have rMz := Lib.hid (cZ.keep rMq.out (by simp))
              have rAz := cZ.keep rAq (by simp)
              have slz := Lib.hid (slq.out.chg cZ (by simp))
              have HCz := Lib.hid (HCq.out.trans cZ)
              clear c3 rB2 kA kb kK cZ rAq rBq hbq rKq HCq slq TRk rMq orAq orBq ohbq orKq
              have oAz := old rAz
              have oBz := old rBz
              go_wp2_with fail
              go_roundw
              case rel => exact ⟨j + 1, y', by omega, by go_num, HCz.out.putRow pA 0 _ (.inr HPA.out), ((Chg.refl [pA] wz).putRow pA 0 _ (.inl (by simp))).keep rMz.out (by simpa using HMA.out), by simp [rAz], slz.out.chg0 ((Chg.refl [pA] wz).putRow pA 0 _ (.inl (by simp))) (by rw [HN.out]; exact AP'.out), HI'.out⟩
              case measure => simp [intOf]; omega
            · skip
              refine gen_exit (w := wq) (b := pB) (x := .cells (ec (y')) 26 (0, 0)) (by (repeat' (first | with_reducible exact Chg.refl _ _ | with_reducible assumption | with_reducible refine Chg.drew ?_ | with_reducible refine Chg.drewN ?_ _ | with_reducible refine Chg.alloc ?_ _ | with_reducible refine Chg.putRow ?_ _ _ _ (.inr ?_) | with_reducible refine Chg.setCell ?_ _ _ _ (.inr ?_)  | with_reducible refine Chg.trans ?_ c3 | with_reducible refine Chg.trans (b := World.drew _) ?_ c3 | (show _ ≤ _; first | exact Nat.le_refl _ | omega | (simp; done))))) (Chg.keep ((Chg.refl [wq.heap.size] w').putRow wq.heap.size 0 _ (.inl (by simp))) (kA (by first | exact rBq | (simp [rBq]; done))) (by have := orBq.lt; simp; omega)) fun wz cZ rBz => ?_
              have rMz := Lib.hid (cZ.keep rMq.out (by simp))
              have rAz := cZ.keep rAq (by simp)
              have slz := Lib.hid (slq.out.chg cZ (by simp))
              have HCz := Lib.hid (HCq.out.trans cZ)
              clear c3 rB2 kA kb kK cZ rAq rBq hbq rKq HCq slq TRk rMq orAq orBq ohbq orKq
              have oAz := old rAz
              have oBz := old rBz
              go_wp2_with fail
              go_roundw
              case rel => exact ⟨j + 1, y', by omega, by go_num, HCz.out.putRow pA 0 _ (.inr HPA.out), ((Chg.refl [pA] wz).putRow pA 0 _ (.inl (by simp))).keep rMz.out (by simpa using HMA.out), by simp [rAz], slz.out.chg0 ((Chg.refl [pA] wz).putRow pA 0 _ (.inl (by simp))) (by rw [HN.out]; exact AP'.out), HI'.out⟩
              case measure => simp [intOf]; omega
          · have hm1 : ¬ ((j : Int) + 1 < (N : Int)) := by omega
            clear HM' hs2
            go_wp2_with fail
            have TRk := HT.out.keep HCq.out (by simp)
            go_region_held3 (fun w' => w'.heap[pB]? = some (.cells (ec (y')) 26 (0, 0)) ∧ w'.heap[b]? = some (.cells cs tt ff) ∧ w'.heap[pK]? = some (.cells (msc am) 28 (0, 0))) (first | exact ⟨rBq, hbq, rKq⟩ | exact ⟨kA (by (first | exact rBq | (simp [rBq]; done))), kb (by (first | exact hbq | (simp [hbq]; done))), kK (by (first | exact rKq | (simp [rKq]; done)))⟩ | (have kA' := kA (by (first | exact rBq | (simp [rBq]; done))); have kb' := kb (by (first | exact hbq | (simp [hbq]; done))); have kK' := kK (by (first | exact rKq | (simp [rKq]; done))); have oA' := old kA'; have ob' := old kb'; have oK' := old kK'; simp [kA', kb', kK']; done) | (exact ⟨(Chg.keep ((Chg.refl [wq.heap.size] w').putRow wq.heap.size 0 _ (.inl (by simp))) (kA (by (first | exact rBq | (simp [rBq]; done)))) (by have := orBq.lt; simp; omega)), (Chg.keep ((Chg.refl [wq.heap.size] w').putRow wq.heap.size 0 _ (.inl (by simp))) (kb (by (first | exact hbq | (simp [hbq]; done)))) (by have := ohbq.lt; simp; omega)), (Chg.keep ((Chg.refl [wq.heap.size] w').putRow wq.heap.size 0 _ (.inl (by simp))) (kK (by (first | exact rKq | (simp [rKq]; done)))) (by have := orKq.lt; simp; omega))⟩) | (simp [rBq, hbq, rKq]; done))
              ((go_at_call 21; refine (danswer_at _ _ _ _ hans2 _ ?_).mono ?_; exact (by first | exact TRk | exact TRk.keep ((Chg.refl [] _).alloc _) (by simp) | exact (TRk.keep (Chg.refl [] _).drew (by simp)) | exact (TRk.keep ((Chg.refl [] _).drew.alloc _) (by simp))); rintro e w' ⟨A3, n3, rfl, hs3, _, c3⟩; (have rB2 := fun h => c3.keep (x := .cells (ec (enZ)) 26 (0, 0)) (k := wq.heap.size) h (by simp)); (have kA := fun h => c3.keep (x := .cells (ec (y')) 26 (0, 0)) (k := pB) h (by simp)); (have kb := fun h => c3.keep (x := .cells cs tt ff) (k := b) h (by simp)); (have kK := fun h => c3.keep (x := .cells (msc am) 28 (0, 0)) (k := pK) h (by simp))))
            · skip
              refine gen_exit (w := wq) (b := pB) (x := .cells (ec (y')) 26 (0, 0)) (by (repeat' (first | with_reducible exact Chg.refl _ _ | with_reducible assumption | with_reducible refine Chg.drew ?_ | with_reducible refine Chg.drewN ?_ _ | with_reducible refine Chg.alloc ?_ _ | with_reducible refine Chg.putRow ?_ _ _ _ (.inr ?_) | with_reducible refine Chg.setCell ?_ _ _ _ (.inr ?_)  | with_reducible refine Chg.trans ?_ c3 | with_reducible refine Chg.trans (b := World.drew _) ?_ c3 | (show _ ≤ _; first | exact Nat.le_refl _ | omega | (simp; done))))) (by have kA' := kA (by first | exact rBq | (simp [rBq]; done)); have oA' := old kA'; simp [kA']) fun wz cZ rBz => ?_
              have rMz := Lib.hid (cZ.keep rMq.out (by simp))
              have rAz := cZ.keep rAq (by simp)
              have slz := Lib.hid (slq.out.chg cZ (by simp))
              have HCz := Lib.hid (HCq.out.trans cZ)
              clear c3 rB2 kA kb kK cZ rAq rBq hbq rKq HCq slq TRk rMq orAq orBq ohbq orKq
              have oAz := old rAz
              have oBz := old rBz
              go_wp2_with fail
              go_roundw
              case rel => exact ⟨j + 1, y', by omega, by go_num, HCz.out.putRow pA 0 _ (.inr HPA.out), ((Chg.refl [pA] wz).putRow pA 0 _ (.inl (by simp))).keep rMz.out (by simpa using HMA.out), by simp [rAz], slz.out.chg0 ((Chg.refl [pA] wz).putRow pA 0 _ (.inl (by simp))) (by rw [HN.out]; exact AP'.out), HI'.out⟩
              case measure => simp [intOf]; omega
            · skip
              refine gen_exit (w := wq) (b := pB) (x := .cells (ec (y')) 26 (0, 0)) (by (repeat' (first | with_reducible exact Chg.refl _ _ | with_reducible assumption | with_reducible refine Chg.drew ?_ | with_reducible refine Chg.drewN ?_ _ | with_reducible refine Chg.alloc ?_ _ | with_reducible refine Chg.putRow ?_ _ _ _ (.inr ?_) | with_reducible refine Chg.setCell ?_ _ _ _ (.inr ?_)  | with_reducible refine Chg.trans ?_ c3 | with_reducible refine Chg.trans (b := World.drew _) ?_ c3 | (show _ ≤ _; first | exact Nat.le_refl _ | omega | (simp; done))))) (Chg.keep ((Chg.refl [wq.heap.size] w').putRow wq.heap.size 0 _ (.inl (by simp))) (kA (by first | exact rBq | (simp [rBq]; done))) (by have := orBq.lt; simp; omega)) fun wz cZ rBz => ?_
              have rMz := Lib.hid (cZ.keep rMq.out (by simp))
              have rAz := cZ.keep rAq (by simp)
              have slz := Lib.hid (slq.out.chg cZ (by simp))
              have HCz := Lib.hid (HCq.out.trans cZ)
              clear c3 rB2 kA kb kK cZ rAq rBq hbq rKq HCq slq TRk rMq orAq orBq ohbq orKq
              have oAz := old rAz
              have oBz := old rBz
              go_wp2_with fail
              go_roundw
              case rel => exact ⟨j + 1, y', by omega, by go_num, HCz.out.putRow pA 0 _ (.inr HPA.out), ((Chg.refl [pA] wz).putRow pA 0 _ (.inl (by simp))).keep rMz.out (by simpa using HMA.out), by simp [rAz], slz.out.chg0 ((Chg.refl [pA] wz).putRow pA 0 _ (.inl (by simp))) (by rw [HN.out]; exact AP'.out), HI'.out⟩
              case measure => simp [intOf]; omega
      · have hjN : j = N := by omega
        have hinv := HI.out
        rw [hjN, show N = (coresL o).length from HN.out] at hinv
        clear HI HSL
        subst hjN
        have TRj := Lib.hid (HT.out.keep HC.out (by simp))
        have oMr := old rMr
        have oAr := old rAr
        rcases HK.out with ⟨hkd, hon⟩ | ⟨hkd, hoo⟩
        · rw [hkd] at hinv
          obtain ⟨z1, z2, z3⟩ := ended_getM (cores_ord o) hinv
          clear hinv
          have k2 : (m.kd == 2) = true := by rw [hkd]; rfl
          skip
          go_wp2_with (go_at_call 20; refine (dwakes _ TRj.out).mono ?_; rintro e w9 ⟨rfl, c9⟩)
          go_ret
          exact ⟨by simp, HC.out.trans c9⟩
        · rw [hkd] at hinv
          obtain ⟨q1, q2, q3, _⟩ := ended_flush (cores_ord o) (.inr rfl) hcc (fun h => hold_none hgp (hoo ▸ h)) hinv
          clear hinv
          have k2 : (m.kd == 2) = false := by rw [hkd]; rfl
          have k1 : (m.kd == 1) = false := by rw [hkd]; rfl
          have k5 : (m.kd != 5) = false := by rw [hkd]; rfl
          have z4 : (y.sh == 0#8) = true := by have := sh_all q3 hoo (cores_ord o); simp [this]
          clear q3
          go_wp2_with fail
          refine (dready_at y true q1 wr).mono ?_
          rintro e w6 ⟨rfl, c6⟩
          have rA6 := c6.keep rAr (by simp)
          have oA6 := old rA6
          have C6 := Lib.hid (HC.out.trans c6)
          clear c6 rAr oAr rMr oMr HC TRj
          go_wp2_with (go_at_call 20; refine (dwakes _ (HT.out.keep C6.out (by simp))).mono ?_; rintro e w9 ⟨rfl, c9⟩)
          go_ret
          exact ⟨by simp, C6.out.trans c9⟩

set_option maxHeartbeats 8000000 in
set_option maxRecDepth 100000 in
theorem dends_12t (x : En) (c : Int) (m : Ms) (w : World) (ht : Tab w) (h0 : ((askE x c m).2 != 0) = false) (tb : ((askE x c m).1.1.bu == 0) = false) (hhe : x.he = true) (hgp : Gp x) (hcc : isC c = true) (hli : lineB m.li = true) (o : Mk) (hask : askE x c m = (waitE x c m o 12, 0)) (hho : ∀ k : Nat, k < 8 → hasM o k = true → hasM x.sh k = true ∨ x.ow = (k : Int)) (hkd : (m.kd = 2 ∧ o ≠ 0#8) ∨ (m.kd = 5 ∧ o = holders x)) (hbit : (bitM c == 0#8) = false) : Calls Tryd.prog 6 #[.agg (ec x), .int .i64 c, .agg (wyc m true)] w fun e w' => e = .returned (.bool true) ∧ Chg [] w w' := by
  have HT := Lib.hid ht
  have HK := Lib.hid hkd
  clear ht hkd
  go_enter Tryd.func6, Tryd.ntmps6
  try dsimp only [List.append]
  go_wp2_with fail
  refine gen_world2 (w := w) (b1 := w.heap.size) (x1 := .cells (ec (x)) 26 (0, 0)) (b2 := w.heap.size + 1) (x2 := .cells (wyc m true) 50 (0, 0)) (by (repeat' (first | with_reducible exact Chg.refl _ _ | with_reducible assumption | with_reducible refine Chg.drew ?_ | with_reducible refine Chg.drewN ?_ _ | with_reducible refine Chg.alloc ?_ _ | with_reducible refine Chg.putRow ?_ _ _ _ (.inr ?_) | with_reducible refine Chg.setCell ?_ _ _ _ (.inr ?_)  | (show _ ≤ _; first | exact Nat.le_refl _ | omega | (simp; done))))) (by simp [*]) (by simp [*]) fun w1 C1 rE rW => ?_
  have oE := old rE
  have oW := old rW
  have HC1 := Lib.hid C1
  clear C1
  go_region_held3 (fun w' => w'.heap[w.heap.size + 1]? = some (.cells (wyc m true) 50 (0, 0))) (first | exact rW | (simp [*]; done)) (fail)
  all_goals
    go_wp2_with fail
    refine gen_calls3 (w := w) (b1 := w.heap.size) (x1 := .cells (ec (x)) 26 (0, 0)) (b2 := w.heap.size + 1) (x2 := .cells (wyc m true) 50 (0, 0)) (b3 := w1.heap.size) (x3 := .cells (msc m) 28 (0, 0)) (by have := HC1.out; have hz := HC1.out.size; (repeat' (first | with_reducible exact Chg.refl _ _ | with_reducible assumption | with_reducible refine Chg.drew ?_ | with_reducible refine Chg.drewN ?_ _ | with_reducible refine Chg.alloc ?_ _ | with_reducible refine Chg.putRow ?_ _ _ _ (.inr ?_) | with_reducible refine Chg.setCell ?_ _ _ _ (.inr ?_)  | (show _ ≤ _; first | exact Nat.le_refl _ | omega | (simp; done))))) (by simp [*]) (by simp [*]) (by simp [*]) fun w2 C2' rE2 rW2 rM => ?_
    have C2 := Lib.hid C2'
    clear C2' HC1 rE rW oE oW
    generalize w1.heap.size = pM at rM ⊢
    have hc := dask_any x c m w2 (HT.out.keep C2.out (by simp))
    refine hc.mono ?_
    clear hc
    rintro e w4 ⟨A, n1, rfl, hs, _, c4⟩
    have rM4 := c4.keep rM (by simp)
    have C4 := Lib.hid (C2.out.trans c4)
    have AP := Lib.hid hs.apart
    have SS := Lib.hid hs
    clear hs c4 C2 rM rE2 rW2
    have oM := old rM4
    rw [hask] at SS AP ⊢
    have HPA := Lib.hid (show w.heap.size ≤ w4.heap.size from C4.out.size)
    have HMA := Lib.hid (show pM ≠ w4.heap.size from Nat.ne_of_lt oM.lt)
    have v1 : (waitE x c m o 12).1.bu = m.kd := rfl
    have v3 : (waitE x c m o 12).1.wa = o := rfl
    have v4 : (m.kd == 0) = false := by rcases HK.out with ⟨h, _⟩ | ⟨h, _⟩ <;> rw [h] <;> rfl
    have hlen := tell_length o (ms4 12 m.li false false)
    have h8 : (coresL o).length ≤ 8 := coresTo_len _ 8
    have I0 := Lib.hid (show Inv7 x o m.kd c m.li false (coresL o).reverse 0 (waitE x c m o 12).1 from Inv7.start hhe hgp c hcc m o 12 (by simp) false (coresL o).reverse (rev_ord o) hho (by rcases HK.out with ⟨h, h2⟩ | ⟨h, _⟩ <;> simp [h] <;> exact h2))
    go_wp2_with (go_at_call 26; refine (rbit_any _ _).mono ?_; rintro e w' ⟨rfl, rfl⟩; (try rw [hbit]))
    refine gen_calls2 (w := w4) (b1 := pM) (x1 := .cells (msc m) 28 (0, 0)) (b2 := w4.heap.size) (x2 := .cells (ec ((waitE x c m o 12).1)) 26 (0, 0)) (by (repeat' (first | with_reducible exact Chg.refl _ _ | with_reducible assumption | with_reducible refine Chg.drew ?_ | with_reducible refine Chg.drewN ?_ _ | with_reducible refine Chg.alloc ?_ _ | with_reducible refine Chg.putRow ?_ _ _ _ (.inr ?_) | with_reducible refine Chg.setCell ?_ _ _ _ (.inr ?_)  | (show _ ≤ _; first | exact Nat.le_refl _ | omega | (simp; done))))) (by simp [*]) (by simp) fun w5 cA rM5 rA5 => ?_
    have S5 := Lib.hid (SS.out.chg cA (by simp))
    have C5 := Lib.hid (C4.out.trans cA)
    clear cA SS C4 rM4 oM
    generalize w4.heap.size = pA at rA5 AP HPA HMA ⊢
    refine (rcores_any o w5 (HT.out.keep C5.out (by simp)).old).mono ?_
    rintro e w6 ⟨B, cB, rfl, hsB, _, c6⟩
    have rM := c6.keep rM5 (by simp)
    have rA := c6.keep rA5 (by simp)
    have S6 := S5.out.chg c6 (by simp)
    have C6 := Lib.hid (C5.out.trans c6)
    clear hsB c6 rM5 rA5 S5 C5
    have oM := old rM
    have oA := old rA
    have SS' := Lib.hid (show Sl w6 13 A (coresL o).length (cat Sd.enc (tellL o (ms4 12 m.li false false))) by rw [← hlen]; exact S6)
    have AP' := Lib.hid (show (coresL o).length = 0 ∨ ∀ a, A = some a → a.block ≠ pA by rw [← hlen]; exact AP.out)
    rw [show (waitE x c m o 12).2.length = (coresL o).length from hlen]
    clear S6 AP hlen hask tb
    generalize (waitE x c m o 12).1 = a0 at rA I0 v1 v3 ⊢
    obtain ⟨N, hN⟩ : ∃ N, N = (coresL o).length := ⟨_, rfl⟩
    rw [← hN] at h8 ⊢
    have HN := Lib.hid hN
    clear hN
    have tn : ((N : Int) != (N : Int)) = false := by simp
    go_wp2_with fail
    go_loopw [13] (fun i wr => ∃ (j : Nat) (y : En), j ≤ N ∧ i = .int .i64 j ∧ Chg [] w wr ∧ wr.heap[pM]? = some (.cells (msc m) 28 (0, 0)) ∧ wr.heap[pA]? = some (.cells (ec (y)) 26 (0, 0)) ∧ Sl wr 13 A N (cat Sd.enc (tellL o (ms4 12 m.li false false))) ∧ Inv7 x o m.kd c m.li false (coresL o).reverse j y) (fun i _ => N - (intOf i).toNat)
    case atStart => exact ⟨0, a0, by omega, rfl, C6.out, rM, rA, by rw [HN.out]; exact SS'.out, I0.out⟩
    case round =>
      obtain ⟨j, y, hj, rfl, hc, rMr, rAr, hsl, hinv⟩ := hrel
      have HC := Lib.hid hc
      have HI := Lib.hid hinv
      have HSL := Lib.hid hsl
      clear hc hinv hsl
      have g0 : (0 : Int) ≤ (j : Int) := by omega
      have gN : (N : Int) ≤ 8 := by omega
      by_cases hlt : j < N
      · have hlo : (coresL o).reverse.length = N := by rw [List.length_reverse]; exact HN.out.symm
        obtain ⟨d, hd⟩ : ∃ d, (coresL o).reverse[j]? = some d := ⟨(coresL o).reverse[j]'(by rw [hlo]; exact hlt), List.getElem?_eq_getElem _⟩
        obtain ⟨y', ss', hans, hinv', hmore, hno⟩ := HI.out.step (rev_ord o) (by rw [hlo]; exact hlt) (ms4 6 m.li false false) (am_inv m.li hli) hd
        obtain ⟨zz, tz, n2c, hn2, hans2⟩ : ∃ (e : En) (t : List Sd) (n : Int), (n == 0) = false ∧ ansE y' d (ms4 6 m.li false false) = ((e, t), n) := by
          rcases ansE_again (am := (ms4 6 m.li false false)) hno with h | h
          · exact ⟨_, _, 1, rfl, h⟩
          · exact ⟨_, _, 16, rfl, h⟩
        rw [hlo] at hmore
        have HI' := Lib.hid hinv'
        have HM' := Lib.hid hmore
        obtain ⟨q, hq⟩ : ∃ q : Nat, q = N - 1 - j := ⟨_, rfl⟩
        have hqd : (coresL o)[q]? = some d := by
          rw [hq]
          rw [List.getElem?_reverse (by rw [← HN.out]; exact hlt), ← HN.out] at hd
          exact hd
        have gq1 : (q : Int) < (N : Int) := by omega
        have gq0 : (0 : Int) ≤ (q : Int) := by omega
        have hqi : (N : Int) - 1 - (j : Int) = (q : Int) := by omega
        clear hq
        obtain ⟨b, off, cs, tt, ff, rfl, hb, i0, i1, _, _⟩ := HSL.out.sd (tell_at (m := ms4 12 m.li false false) hqd)
        have g1' : (j : Int) < (N : Int) := by omega
        have oMr := old rMr
        have oAr := old rAr
        have obr := old hb
        have i1' : cs[off + q * 13 + 1]? = some (.int .i64 12) := i1
        clear hinv' hmore hno hd hqd i1
        go_wp2_with fail
        obtain ⟨am, ham⟩ : ∃ z, z = (ms4 6 m.li false false) := ⟨_, rfl⟩
        rw [← ham] at hans hans2
        refine gen_world3 (w := wr) (b1 := pA) (x1 := .cells (ec (y)) 26 (0, 0)) (b2 := b) (x2 := .cells cs tt ff) (b3 := wr.heap.size) (x3 := .cells (msc am) 28 (0, 0)) (by (repeat' (first | with_reducible exact Chg.refl _ _ | with_reducible assumption | with_reducible refine Chg.drew ?_ | with_reducible refine Chg.drewN ?_ _ | with_reducible refine Chg.alloc ?_ _ | with_reducible refine Chg.putRow ?_ _ _ _ (.inr ?_) | with_reducible refine Chg.setCell ?_ _ _ _ (.inr ?_)  | (show _ ≤ _; first | exact Nat.le_refl _ | omega | (simp; done))))) (by simp [*]) (by simp [*]) (by rw [ham, ← ms4_lit]; simp) fun wk cK rAk hbk rKk => ?_
        have rMk := Lib.hid (cK.keep rMr (by simp))
        have slk := Lib.hid (HSL.out.chg cK (by simp))
        have HCk := Lib.hid (HC.out.trans cK)
        have TRk := HT.out.keep HCk.out (by simp)
        clear cK HC HSL HI rMr rAr hb oMr oAr obr ham
        generalize wr.heap.size = pK at rKk ⊢
        have orAk := old rAk
        have ohbk := old hbk
        have orKk := old rKk
        go_region_held3 (fun w' => w'.heap[pA]? = some (.cells (ec (y)) 26 (0, 0)) ∧ w'.heap[b]? = some (.cells cs tt ff) ∧ w'.heap[pK]? = some (.cells (msc am) 28 (0, 0))) (first | exact ⟨rAk, hbk, rKk⟩ | exact ⟨kA (by (first | exact rAk | (simp [rAk]; done))), kb (by (first | exact hbk | (simp [hbk]; done))), kK (by (first | exact rKk | (simp [rKk]; done)))⟩ | (have kA' := kA (by (first | exact rAk | (simp [rAk]; done))); have kb' := kb (by (first | exact hbk | (simp [hbk]; done))); have kK' := kK (by (first | exact rKk | (simp [rKk]; done))); have oA' := old kA'; have ob' := old kb'; have oK' := old kK'; simp [kA', kb', kK']; done) | (exact ⟨(Chg.keep ((Chg.refl [wk.heap.size] w').putRow wk.heap.size 0 _ (.inl (by simp))) (kA (by (first | exact rAk | (simp [rAk]; done)))) (by have := orAk.lt; simp; omega)), (Chg.keep ((Chg.refl [wk.heap.size] w').putRow wk.heap.size 0 _ (.inl (by simp))) (kb (by (first | exact hbk | (simp [hbk]; done)))) (by have := ohbk.lt; simp; omega)), (Chg.keep ((Chg.refl [wk.heap.size] w').putRow wk.heap.size 0 _ (.inl (by simp))) (kK (by (first | exact rKk | (simp [rKk]; done)))) (by have := orKk.lt; simp; omega))⟩) | (simp [rAk, hbk, rKk]; done))
          ((go_at_call 21; refine (danswer_at _ _ _ _ hans _ ?_).mono ?_; exact (by first | exact TRk | exact TRk.keep ((Chg.refl [] _).alloc _) (by simp) | exact (TRk.keep (Chg.refl [] _).drew (by simp)) | exact (TRk.keep ((Chg.refl [] _).drew.alloc _) (by simp))); rintro e w' ⟨A2, n2, rfl, hs2, _, c2⟩; (have rB2 := fun h => c2.keep (x := .cells (ec (enZ)) 26 (0, 0)) (k := wk.heap.size) h (by simp)); (have kA := fun h => c2.keep (x := .cells (ec (y)) 26 (0, 0)) (k := pA) h (by simp)); (have kb := fun h => c2.keep (x := .cells cs tt ff) (k := b) h (by simp)); (have kK := fun h => c2.keep (x := .cells (msc am) 28 (0, 0)) (k := pK) h (by simp))))
        · skip
          refine gen_exit (w := wk) (b := w'.heap.size) (x := .cells (ec (y')) 26 (0, 0)) (by (repeat' (first | with_reducible exact Chg.refl _ _ | with_reducible assumption | with_reducible refine Chg.drew ?_ | with_reducible refine Chg.drewN ?_ _ | with_reducible refine Chg.alloc ?_ _ | with_reducible refine Chg.putRow ?_ _ _ _ (.inr ?_) | with_reducible refine Chg.setCell ?_ _ _ _ (.inr ?_)  | with_reducible refine Chg.trans ?_ c2 | with_reducible refine Chg.trans (b := World.drew _) ?_ c2 | (show _ ≤ _; first | exact Nat.le_refl _ | omega | (simp; done))))) (by first | (simp; done) | (simp [rB2 (by simp)]; done)) fun wq cW rBq => ?_
          generalize w'.heap.size = pB at rBq ⊢
          have rMq := Lib.hid (cW.keep rMk.out (by simp))
          have rAq := cW.keep rAk (by simp)
          have hbq := cW.keep hbk (by simp)
          have rKq := cW.keep rKk (by simp)
          have slq := Lib.hid (slk.out.chg cW (by simp))
          have HCq := Lib.hid (HCk.out.trans cW)
          clear c2 rB2 kA kb kK cW rAk hbk rKk HCk slk TRk rMk orAk ohbk orKk
          have orAq := old rAq
          have orBq := old rBq
          have ohbq := old hbq
          have orKq := old rKq
          by_cases hm : j + 1 < N
          · obtain ⟨rfl, e2⟩ := HM'.out hm
            have hm1 : (j : Int) + 1 < (N : Int) := by omega
            clear HM' hs2
            go_wp2_with fail
            have TRk := HT.out.keep HCq.out (by simp)
            go_region_held3 (fun w' => w'.heap[pB]? = some (.cells (ec (y')) 26 (0, 0)) ∧ w'.heap[b]? = some (.cells cs tt ff) ∧ w'.heap[pK]? = some (.cells (msc am) 28 (0, 0))) (first | exact ⟨rBq, hbq, rKq⟩ | exact ⟨kA (by (first | exact rBq | (simp [rBq]; done))), kb (by (first | exact hbq | (simp [hbq]; done))), kK (by (first | exact rKq | (simp [rKq]; done)))⟩ | (have kA' := kA (by (first | exact rBq | (simp [rBq]; done))); have kb' := kb (by (first | exact hbq | (simp [hbq]; done))); have kK' := kK (by (first | exact rKq | (simp [rKq]; done))); have oA' := old kA'; have ob' := old kb'; have oK' := old kK'; simp [kA', kb', kK']; done) | (exact ⟨(Chg.keep ((Chg.refl [wq.heap.size] w').putRow wq.heap.size 0 _ (.inl (by simp))) (kA (by (first | exact rBq | (simp [rBq]; done)))) (by have := orBq.lt; simp; omega)), (Chg.keep ((Chg.refl [wq.heap.size] w').putRow wq.heap.size 0 _ (.inl (by simp))) (kb (by (first | exact hbq | (simp [hbq]; done)))) (by have := ohbq.lt; simp; omega)), (Chg.keep ((Chg.refl [wq.heap.size] w').putRow wq.heap.size 0 _ (.inl (by simp))) (kK (by (first | exact rKq | (simp [rKq]; done)))) (by have := orKq.lt; simp; omega))⟩) | (simp [rBq, hbq, rKq]; done))
              ((go_at_call 21; refine (danswer_at _ _ _ _ hans2 _ ?_).mono ?_; exact (by first | exact TRk | exact TRk.keep ((Chg.refl [] _).alloc _) (by simp) | exact (TRk.keep (Chg.refl [] _).drew (by simp)) | exact (TRk.keep ((Chg.refl [] _).drew.alloc _) (by simp))); rintro e w' ⟨A3, n3, rfl, hs3, _, c3⟩; (have rB2 := fun h => c3.keep (x := .cells (ec (enZ)) 26 (0, 0)) (k := wq.heap.size) h (by simp)); (have kA := fun h => c3.keep (x := .cells (ec (y')) 26 (0, 0)) (k := pB) h (by simp)); (have kb := fun h => c3.keep (x := .cells cs tt ff) (k := b) h (by simp)); (have kK := fun h => c3.keep (x := .cells (msc am) 28 (0, 0)) (k := pK) h (by simp))))
            · skip
              refine gen_exit (w := wq) (b := pB) (x := .cells (ec (y')) 26 (0, 0)) (by (repeat' (first | with_reducible exact Chg.refl _ _ | with_reducible assumption | with_reducible refine Chg.drew ?_ | with_reducible refine Chg.drewN ?_ _ | with_reducible refine Chg.alloc ?_ _ | with_reducible refine Chg.putRow ?_ _ _ _ (.inr ?_) | with_reducible refine Chg.setCell ?_ _ _ _ (.inr ?_)  | with_reducible refine Chg.trans ?_ c3 | with_reducible refine Chg.trans (b := World.drew _) ?_ c3 | (show _ ≤ _; first | exact Nat.le_refl _ | omega | (simp; done))))) (by have kA' := kA (by first | exact rBq | (simp [rBq]; done)); have oA' := old kA'; simp [kA']) fun wz cZ rBz => ?_
              have rMz := Lib.hid (cZ.keep rMq.out (by simp))
              have rAz := cZ.keep rAq (by simp)
              have slz := Lib.hid (slq.out.chg cZ (by simp))
              have HCz := Lib.hid (HCq.out.trans cZ)
              clear c3 rB2 kA kb kK cZ rAq rBq hbq rKq HCq slq TRk rMq orAq orBq ohbq orKq
              have oAz := old rAz
              have oBz := old rBz
              go_wp2_with fail
              go_roundw
              case rel => exact ⟨j + 1, y', by omega, by go_num, HCz.out.putRow pA 0 _ (.inr HPA.out), ((Chg.refl [pA] wz).putRow pA 0 _ (.inl (by simp))).keep rMz.out (by simpa using HMA.out), by simp [rAz], slz.out.chg0 ((Chg.refl [pA] wz).putRow pA 0 _ (.inl (by simp))) (by rw [HN.out]; exact AP'.out), HI'.out⟩
              case measure => simp [intOf]; omega
            · skip
              refine gen_exit (w := wq) (b := pB) (x := .cells (ec (y')) 26 (0, 0)) (by (repeat' (first | with_reducible exact Chg.refl _ _ | with_reducible assumption | with_reducible refine Chg.drew ?_ | with_reducible refine Chg.drewN ?_ _ | with_reducible refine Chg.alloc ?_ _ | with_reducible refine Chg.putRow ?_ _ _ _ (.inr ?_) | with_reducible refine Chg.setCell ?_ _ _ _ (.inr ?_)  | with_reducible refine Chg.trans ?_ c3 | with_reducible refine Chg.trans (b := World.drew _) ?_ c3 | (show _ ≤ _; first | exact Nat.le_refl _ | omega | (simp; done))))) (Chg.keep ((Chg.refl [wq.heap.size] w').putRow wq.heap.size 0 _ (.inl (by simp))) (kA (by first | exact rBq | (simp [rBq]; done))) (by have := orBq.lt; simp; omega)) fun wz cZ rBz => ?_
              have rMz := Lib.hid (cZ.keep rMq.out (by simp))
              have rAz := cZ.keep rAq (by simp)
              have slz := Lib.hid (slq.out.chg cZ (by simp))
              have HCz := Lib.hid (HCq.out.trans cZ)
              clear c3 rB2 kA kb kK cZ rAq rBq hbq rKq HCq slq TRk rMq orAq orBq ohbq orKq
              have oAz := old rAz
              have oBz := old rBz
              go_wp2_with fail
              go_roundw
              case rel => exact ⟨j + 1, y', by omega, by go_num, HCz.out.putRow pA 0 _ (.inr HPA.out), ((Chg.refl [pA] wz).putRow pA 0 _ (.inl (by simp))).keep rMz.out (by simpa using HMA.out), by simp [rAz], slz.out.chg0 ((Chg.refl [pA] wz).putRow pA 0 _ (.inl (by simp))) (by rw [HN.out]; exact AP'.out), HI'.out⟩
              case measure => simp [intOf]; omega
          · have hm1 : ¬ ((j : Int) + 1 < (N : Int)) := by omega
            clear HM' hs2
            go_wp2_with fail
            have TRk := HT.out.keep HCq.out (by simp)
            go_region_held3 (fun w' => w'.heap[pB]? = some (.cells (ec (y')) 26 (0, 0)) ∧ w'.heap[b]? = some (.cells cs tt ff) ∧ w'.heap[pK]? = some (.cells (msc am) 28 (0, 0))) (first | exact ⟨rBq, hbq, rKq⟩ | exact ⟨kA (by (first | exact rBq | (simp [rBq]; done))), kb (by (first | exact hbq | (simp [hbq]; done))), kK (by (first | exact rKq | (simp [rKq]; done)))⟩ | (have kA' := kA (by (first | exact rBq | (simp [rBq]; done))); have kb' := kb (by (first | exact hbq | (simp [hbq]; done))); have kK' := kK (by (first | exact rKq | (simp [rKq]; done))); have oA' := old kA'; have ob' := old kb'; have oK' := old kK'; simp [kA', kb', kK']; done) | (exact ⟨(Chg.keep ((Chg.refl [wq.heap.size] w').putRow wq.heap.size 0 _ (.inl (by simp))) (kA (by (first | exact rBq | (simp [rBq]; done)))) (by have := orBq.lt; simp; omega)), (Chg.keep ((Chg.refl [wq.heap.size] w').putRow wq.heap.size 0 _ (.inl (by simp))) (kb (by (first | exact hbq | (simp [hbq]; done)))) (by have := ohbq.lt; simp; omega)), (Chg.keep ((Chg.refl [wq.heap.size] w').putRow wq.heap.size 0 _ (.inl (by simp))) (kK (by (first | exact rKq | (simp [rKq]; done)))) (by have := orKq.lt; simp; omega))⟩) | (simp [rBq, hbq, rKq]; done))
              ((go_at_call 21; refine (danswer_at _ _ _ _ hans2 _ ?_).mono ?_; exact (by first | exact TRk | exact TRk.keep ((Chg.refl [] _).alloc _) (by simp) | exact (TRk.keep (Chg.refl [] _).drew (by simp)) | exact (TRk.keep ((Chg.refl [] _).drew.alloc _) (by simp))); rintro e w' ⟨A3, n3, rfl, hs3, _, c3⟩; (have rB2 := fun h => c3.keep (x := .cells (ec (enZ)) 26 (0, 0)) (k := wq.heap.size) h (by simp)); (have kA := fun h => c3.keep (x := .cells (ec (y')) 26 (0, 0)) (k := pB) h (by simp)); (have kb := fun h => c3.keep (x := .cells cs tt ff) (k := b) h (by simp)); (have kK := fun h => c3.keep (x := .cells (msc am) 28 (0, 0)) (k := pK) h (by simp))))
            · skip
              refine gen_exit (w := wq) (b := pB) (x := .cells (ec (y')) 26 (0, 0)) (by (repeat' (first | with_reducible exact Chg.refl _ _ | with_reducible assumption | with_reducible refine Chg.drew ?_ | with_reducible refine Chg.drewN ?_ _ | with_reducible refine Chg.alloc ?_ _ | with_reducible refine Chg.putRow ?_ _ _ _ (.inr ?_) | with_reducible refine Chg.setCell ?_ _ _ _ (.inr ?_)  | with_reducible refine Chg.trans ?_ c3 | with_reducible refine Chg.trans (b := World.drew _) ?_ c3 | (show _ ≤ _; first | exact Nat.le_refl _ | omega | (simp; done))))) (by have kA' := kA (by first | exact rBq | (simp [rBq]; done)); have oA' := old kA'; simp [kA']) fun wz cZ rBz => ?_
              have rMz := Lib.hid (cZ.keep rMq.out (by simp))
              have rAz := cZ.keep rAq (by simp)
              have slz := Lib.hid (slq.out.chg cZ (by simp))
              have HCz := Lib.hid (HCq.out.trans cZ)
              clear c3 rB2 kA kb kK cZ rAq rBq hbq rKq HCq slq TRk rMq orAq orBq ohbq orKq
              have oAz := old rAz
              have oBz := old rBz
              go_wp2_with fail
              go_roundw
              case rel => exact ⟨j + 1, y', by omega, by go_num, HCz.out.putRow pA 0 _ (.inr HPA.out), ((Chg.refl [pA] wz).putRow pA 0 _ (.inl (by simp))).keep rMz.out (by simpa using HMA.out), by simp [rAz], slz.out.chg0 ((Chg.refl [pA] wz).putRow pA 0 _ (.inl (by simp))) (by rw [HN.out]; exact AP'.out), HI'.out⟩
              case measure => simp [intOf]; omega
            · skip
              refine gen_exit (w := wq) (b := pB) (x := .cells (ec (y')) 26 (0, 0)) (by (repeat' (first | with_reducible exact Chg.refl _ _ | with_reducible assumption | with_reducible refine Chg.drew ?_ | with_reducible refine Chg.drewN ?_ _ | with_reducible refine Chg.alloc ?_ _ | with_reducible refine Chg.putRow ?_ _ _ _ (.inr ?_) | with_reducible refine Chg.setCell ?_ _ _ _ (.inr ?_)  | with_reducible refine Chg.trans ?_ c3 | with_reducible refine Chg.trans (b := World.drew _) ?_ c3 | (show _ ≤ _; first | exact Nat.le_refl _ | omega | (simp; done))))) (Chg.keep ((Chg.refl [wq.heap.size] w').putRow wq.heap.size 0 _ (.inl (by simp))) (kA (by first | exact rBq | (simp [rBq]; done))) (by have := orBq.lt; simp; omega)) fun wz cZ rBz => ?_
              have rMz := Lib.hid (cZ.keep rMq.out (by simp))
              have rAz := cZ.keep rAq (by simp)
              have slz := Lib.hid (slq.out.chg cZ (by simp))
              have HCz := Lib.hid (HCq.out.trans cZ)
              clear c3 rB2 kA kb kK cZ rAq rBq hbq rKq HCq slq TRk rMq orAq orBq ohbq orKq
              have oAz := old rAz
              have oBz := old rBz
              go_wp2_with fail
              go_roundw
              case rel => exact ⟨j + 1, y', by omega, by go_num, HCz.out.putRow pA 0 _ (.inr HPA.out), ((Chg.refl [pA] wz).putRow pA 0 _ (.inl (by simp))).keep rMz.out (by simpa using HMA.out), by simp [rAz], slz.out.chg0 ((Chg.refl [pA] wz).putRow pA 0 _ (.inl (by simp))) (by rw [HN.out]; exact AP'.out), HI'.out⟩
              case measure => simp [intOf]; omega
        · skip
          refine gen_exit (w := wk) (b := wk.heap.size) (x := .cells (ec (y')) 26 (0, 0)) (by (repeat' (first | with_reducible exact Chg.refl _ _ | with_reducible assumption | with_reducible refine Chg.drew ?_ | with_reducible refine Chg.drewN ?_ _ | with_reducible refine Chg.alloc ?_ _ | with_reducible refine Chg.putRow ?_ _ _ _ (.inr ?_) | with_reducible refine Chg.setCell ?_ _ _ _ (.inr ?_)  | with_reducible refine Chg.trans ?_ c2 | with_reducible refine Chg.trans (b := World.drew _) ?_ c2 | (show _ ≤ _; first | exact Nat.le_refl _ | omega | (simp; done))))) (by first | (simp; done) | (simp [rB2 (by simp)]; done)) fun wq cW rBq => ?_
          generalize wk.heap.size = pB at rBq ⊢
          have rMq := Lib.hid (cW.keep rMk.out (by simp))
          have rAq := cW.keep rAk (by simp)
          have hbq := cW.keep hbk (by simp)
          have rKq := cW.keep rKk (by simp)
          have slq := Lib.hid (slk.out.chg cW (by simp))
          have HCq := Lib.hid (HCk.out.trans cW)
          clear c2 rB2 kA kb kK cW rAk hbk rKk HCk slk TRk rMk orAk ohbk orKk
          have orAq := old rAq
          have orBq := old rBq
          have ohbq := old hbq
          have orKq := old rKq
          by_cases hm : j + 1 < N
          · obtain ⟨rfl, e2⟩ := HM'.out hm
            have hm1 : (j : Int) + 1 < (N : Int) := by omega
            clear HM' hs2
            go_wp2_with fail
            have TRk := HT.out.keep HCq.out (by simp)
            go_region_held3 (fun w' => w'.heap[pB]? = some (.cells (ec (y')) 26 (0, 0)) ∧ w'.heap[b]? = some (.cells cs tt ff) ∧ w'.heap[pK]? = some (.cells (msc am) 28 (0, 0))) (first | exact ⟨rBq, hbq, rKq⟩ | exact ⟨kA (by (first | exact rBq | (simp [rBq]; done))), kb (by (first | exact hbq | (simp [hbq]; done))), kK (by (first | exact rKq | (simp [rKq]; done)))⟩ | (have kA' := kA (by (first | exact rBq | (simp [rBq]; done))); have kb' := kb (by (first | exact hbq | (simp [hbq]; done))); have kK' := kK (by (first | exact rKq | (simp [rKq]; done))); have oA' := old kA'; have ob' := old kb'; have oK' := old kK'; simp [kA', kb', kK']; done) | (exact ⟨(Chg.keep ((Chg.refl [wq.heap.size] w').putRow wq.heap.size 0 _ (.inl (by simp))) (kA (by (first | exact rBq | (simp [rBq]; done)))) (by have := orBq.lt; simp; omega)), (Chg.keep ((Chg.refl [wq.heap.size] w').putRow wq.heap.size 0 _ (.inl (by simp))) (kb (by (first | exact hbq | (simp [hbq]; done)))) (by have := ohbq.lt; simp; omega)), (Chg.keep ((Chg.refl [wq.heap.size] w').putRow wq.heap.size 0 _ (.inl (by simp))) (kK (by (first | exact rKq | (simp [rKq]; done)))) (by have := orKq.lt; simp; omega))⟩) | (simp [rBq, hbq, rKq]; done))
              ((go_at_call 21; refine (danswer_at _ _ _ _ hans2 _ ?_).mono ?_; exact (by first | exact TRk | exact TRk.keep ((Chg.refl [] _).alloc _) (by simp) | exact (TRk.keep (Chg.refl [] _).drew (by simp)) | exact (TRk.keep ((Chg.refl [] _).drew.alloc _) (by simp))); rintro e w' ⟨A3, n3, rfl, hs3, _, c3⟩; (have rB2 := fun h => c3.keep (x := .cells (ec (enZ)) 26 (0, 0)) (k := wq.heap.size) h (by simp)); (have kA := fun h => c3.keep (x := .cells (ec (y')) 26 (0, 0)) (k := pB) h (by simp)); (have kb := fun h => c3.keep (x := .cells cs tt ff) (k := b) h (by simp)); (have kK := fun h => c3.keep (x := .cells (msc am) 28 (0, 0)) (k := pK) h (by simp))))
            · skip
              refine gen_exit (w := wq) (b := pB) (x := .cells (ec (y')) 26 (0, 0)) (by (repeat' (first | with_reducible exact Chg.refl _ _ | with_reducible assumption | with_reducible refine Chg.drew ?_ | with_reducible refine Chg.drewN ?_ _ | with_reducible refine Chg.alloc ?_ _ | with_reducible refine Chg.putRow ?_ _ _ _ (.inr ?_) | with_reducible refine Chg.setCell ?_ _ _ _ (.inr ?_)  | with_reducible refine Chg.trans ?_ c3 | with_reducible refine Chg.trans (b := World.drew _) ?_ c3 | (show _ ≤ _; first | exact Nat.le_refl _ | omega | (simp; done))))) (by have kA' := kA (by first | exact rBq | (simp [rBq]; done)); have oA' := old kA'; simp [kA']) fun wz cZ rBz => ?_
              have rMz := Lib.hid (cZ.keep rMq.out (by simp))
              have rAz := cZ.keep rAq (by simp)
              have slz := Lib.hid (slq.out.chg cZ (by simp))
              have HCz := Lib.hid (HCq.out.trans cZ)
              clear c3 rB2 kA kb kK cZ rAq rBq hbq rKq HCq slq TRk rMq orAq orBq ohbq orKq
              have oAz := old rAz
              have oBz := old rBz
              go_wp2_with fail
              go_roundw
              case rel => exact ⟨j + 1, y', by omega, by go_num, HCz.out.putRow pA 0 _ (.inr HPA.out), ((Chg.refl [pA] wz).putRow pA 0 _ (.inl (by simp))).keep rMz.out (by simpa using HMA.out), by simp [rAz], slz.out.chg0 ((Chg.refl [pA] wz).putRow pA 0 _ (.inl (by simp))) (by rw [HN.out]; exact AP'.out), HI'.out⟩
              case measure => simp [intOf]; omega
            · skip
              refine gen_exit (w := wq) (b := pB) (x := .cells (ec (y')) 26 (0, 0)) (by (repeat' (first | with_reducible exact Chg.refl _ _ | with_reducible assumption | with_reducible refine Chg.drew ?_ | with_reducible refine Chg.drewN ?_ _ | with_reducible refine Chg.alloc ?_ _ | with_reducible refine Chg.putRow ?_ _ _ _ (.inr ?_) | with_reducible refine Chg.setCell ?_ _ _ _ (.inr ?_)  | with_reducible refine Chg.trans ?_ c3 | with_reducible refine Chg.trans (b := World.drew _) ?_ c3 | (show _ ≤ _; first | exact Nat.le_refl _ | omega | (simp; done))))) (Chg.keep ((Chg.refl [wq.heap.size] w').putRow wq.heap.size 0 _ (.inl (by simp))) (kA (by first | exact rBq | (simp [rBq]; done))) (by have := orBq.lt; simp; omega)) fun wz cZ rBz => ?_
              have rMz := Lib.hid (cZ.keep rMq.out (by simp))
              have rAz := cZ.keep rAq (by simp)
              have slz := Lib.hid (slq.out.chg cZ (by simp))
              have HCz := Lib.hid (HCq.out.trans cZ)
              clear c3 rB2 kA kb kK cZ rAq rBq hbq rKq HCq slq TRk rMq orAq orBq ohbq orKq
              have oAz := old rAz
              have oBz := old rBz
              go_wp2_with fail
              go_roundw
              case rel => exact ⟨j + 1, y', by omega, by go_num, HCz.out.putRow pA 0 _ (.inr HPA.out), ((Chg.refl [pA] wz).putRow pA 0 _ (.inl (by simp))).keep rMz.out (by simpa using HMA.out), by simp [rAz], slz.out.chg0 ((Chg.refl [pA] wz).putRow pA 0 _ (.inl (by simp))) (by rw [HN.out]; exact AP'.out), HI'.out⟩
              case measure => simp [intOf]; omega
          · have hm1 : ¬ ((j : Int) + 1 < (N : Int)) := by omega
            clear HM' hs2
            go_wp2_with fail
            have TRk := HT.out.keep HCq.out (by simp)
            go_region_held3 (fun w' => w'.heap[pB]? = some (.cells (ec (y')) 26 (0, 0)) ∧ w'.heap[b]? = some (.cells cs tt ff) ∧ w'.heap[pK]? = some (.cells (msc am) 28 (0, 0))) (first | exact ⟨rBq, hbq, rKq⟩ | exact ⟨kA (by (first | exact rBq | (simp [rBq]; done))), kb (by (first | exact hbq | (simp [hbq]; done))), kK (by (first | exact rKq | (simp [rKq]; done)))⟩ | (have kA' := kA (by (first | exact rBq | (simp [rBq]; done))); have kb' := kb (by (first | exact hbq | (simp [hbq]; done))); have kK' := kK (by (first | exact rKq | (simp [rKq]; done))); have oA' := old kA'; have ob' := old kb'; have oK' := old kK'; simp [kA', kb', kK']; done) | (exact ⟨(Chg.keep ((Chg.refl [wq.heap.size] w').putRow wq.heap.size 0 _ (.inl (by simp))) (kA (by (first | exact rBq | (simp [rBq]; done)))) (by have := orBq.lt; simp; omega)), (Chg.keep ((Chg.refl [wq.heap.size] w').putRow wq.heap.size 0 _ (.inl (by simp))) (kb (by (first | exact hbq | (simp [hbq]; done)))) (by have := ohbq.lt; simp; omega)), (Chg.keep ((Chg.refl [wq.heap.size] w').putRow wq.heap.size 0 _ (.inl (by simp))) (kK (by (first | exact rKq | (simp [rKq]; done)))) (by have := orKq.lt; simp; omega))⟩) | (simp [rBq, hbq, rKq]; done))
              ((go_at_call 21; refine (danswer_at _ _ _ _ hans2 _ ?_).mono ?_; exact (by first | exact TRk | exact TRk.keep ((Chg.refl [] _).alloc _) (by simp) | exact (TRk.keep (Chg.refl [] _).drew (by simp)) | exact (TRk.keep ((Chg.refl [] _).drew.alloc _) (by simp))); rintro e w' ⟨A3, n3, rfl, hs3, _, c3⟩; (have rB2 := fun h => c3.keep (x := .cells (ec (enZ)) 26 (0, 0)) (k := wq.heap.size) h (by simp)); (have kA := fun h => c3.keep (x := .cells (ec (y')) 26 (0, 0)) (k := pB) h (by simp)); (have kb := fun h => c3.keep (x := .cells cs tt ff) (k := b) h (by simp)); (have kK := fun h => c3.keep (x := .cells (msc am) 28 (0, 0)) (k := pK) h (by simp))))
            · skip
              refine gen_exit (w := wq) (b := pB) (x := .cells (ec (y')) 26 (0, 0)) (by (repeat' (first | with_reducible exact Chg.refl _ _ | with_reducible assumption | with_reducible refine Chg.drew ?_ | with_reducible refine Chg.drewN ?_ _ | with_reducible refine Chg.alloc ?_ _ | with_reducible refine Chg.putRow ?_ _ _ _ (.inr ?_) | with_reducible refine Chg.setCell ?_ _ _ _ (.inr ?_)  | with_reducible refine Chg.trans ?_ c3 | with_reducible refine Chg.trans (b := World.drew _) ?_ c3 | (show _ ≤ _; first | exact Nat.le_refl _ | omega | (simp; done))))) (by have kA' := kA (by first | exact rBq | (simp [rBq]; done)); have oA' := old kA'; simp [kA']) fun wz cZ rBz => ?_
              have rMz := Lib.hid (cZ.keep rMq.out (by simp))
              have rAz := cZ.keep rAq (by simp)
              have slz := Lib.hid (slq.out.chg cZ (by simp))
              have HCz := Lib.hid (HCq.out.trans cZ)
              clear c3 rB2 kA kb kK cZ rAq rBq hbq rKq HCq slq TRk rMq orAq orBq ohbq orKq
              have oAz := old rAz
              have oBz := old rBz
              go_wp2_with fail
              go_roundw
              case rel => exact ⟨j + 1, y', by omega, by go_num, HCz.out.putRow pA 0 _ (.inr HPA.out), ((Chg.refl [pA] wz).putRow pA 0 _ (.inl (by simp))).keep rMz.out (by simpa using HMA.out), by simp [rAz], slz.out.chg0 ((Chg.refl [pA] wz).putRow pA 0 _ (.inl (by simp))) (by rw [HN.out]; exact AP'.out), HI'.out⟩
              case measure => simp [intOf]; omega
            · skip
              refine gen_exit (w := wq) (b := pB) (x := .cells (ec (y')) 26 (0, 0)) (by (repeat' (first | with_reducible exact Chg.refl _ _ | with_reducible assumption | with_reducible refine Chg.drew ?_ | with_reducible refine Chg.drewN ?_ _ | with_reducible refine Chg.alloc ?_ _ | with_reducible refine Chg.putRow ?_ _ _ _ (.inr ?_) | with_reducible refine Chg.setCell ?_ _ _ _ (.inr ?_)  | with_reducible refine Chg.trans ?_ c3 | with_reducible refine Chg.trans (b := World.drew _) ?_ c3 | (show _ ≤ _; first | exact Nat.le_refl _ | omega | (simp; done))))) (Chg.keep ((Chg.refl [wq.heap.size] w').putRow wq.heap.size 0 _ (.inl (by simp))) (kA (by first | exact rBq | (simp [rBq]; done))) (by have := orBq.lt; simp; omega)) fun wz cZ rBz => ?_
              have rMz := Lib.hid (cZ.keep rMq.out (by simp))
              have rAz := cZ.keep rAq (by simp)
              have slz := Lib.hid (slq.out.chg cZ (by simp))
              have HCz := Lib.hid (HCq.out.trans cZ)
              clear c3 rB2 kA kb kK cZ rAq rBq hbq rKq HCq slq TRk rMq orAq orBq ohbq orKq
              have oAz := old rAz
              have oBz := old rBz
              go_wp2_with fail
              go_roundw
              case rel => exact ⟨j + 1, y', by omega, by go_num, HCz.out.putRow pA 0 _ (.inr HPA.out), ((Chg.refl [pA] wz).putRow pA 0 _ (.inl (by simp))).keep rMz.out (by simpa using HMA.out), by simp [rAz], slz.out.chg0 ((Chg.refl [pA] wz).putRow pA 0 _ (.inl (by simp))) (by rw [HN.out]; exact AP'.out), HI'.out⟩
              case measure => simp [intOf]; omega
      · have hjN : j = N := by omega
        have hinv := HI.out
        rw [hjN, show N = (coresL o).reverse.length from by rw [List.length_reverse]; exact HN.out] at hinv
        clear HI HSL
        subst hjN
        have TRj := Lib.hid (HT.out.keep HC.out (by simp))
        have oMr := old rMr
        have oAr := old rAr
        rcases HK.out with ⟨hkd, hon⟩ | ⟨hkd, hoo⟩
        · rw [hkd] at hinv
          obtain ⟨z1, z2, z3⟩ := ended_getM (rev_ord o) hinv
          clear hinv
          have k2 : (m.kd == 2) = true := by rw [hkd]; rfl
          skip
          go_wp2_with (go_at_call 20; refine (dwakes _ TRj.out).mono ?_; rintro e w9 ⟨rfl, c9⟩)
          go_ret
          exact ⟨by simp, HC.out.trans c9⟩
        · rw [hkd] at hinv
          obtain ⟨q1, q2, q3, _⟩ := ended_flush (rev_ord o) (.inr rfl) hcc (fun h => hold_none hgp (hoo ▸ h)) hinv
          clear hinv
          have k2 : (m.kd == 2) = false := by rw [hkd]; rfl
          have k1 : (m.kd == 1) = false := by rw [hkd]; rfl
          have k5 : (m.kd != 5) = false := by rw [hkd]; rfl
          have z4 : (y.sh == 0#8) = true := by have := sh_all q3 hoo (rev_ord o); simp [this]
          clear q3
          go_wp2_with fail
          refine (dready_at y true q1 wr).mono ?_
          rintro e w6 ⟨rfl, c6⟩
          have rA6 := c6.keep rAr (by simp)
          have oA6 := old rA6
          have C6 := Lib.hid (HC.out.trans c6)
          clear c6 rAr oAr rMr oMr HC TRj
          go_wp2_with (go_at_call 20; refine (dwakes _ (HT.out.keep C6.out (by simp))).mono ?_; rintro e w9 ⟨rfl, c9⟩)
          go_ret
          exact ⟨by simp, C6.out.trans c9⟩

set_option maxHeartbeats 8000000 in
set_option maxRecDepth 100000 in
theorem dends_any (x : En) (c : Int) (m : Ms) (b : Bool) (w : World) (ht : Tab w) : Calls Tryd.prog 6 #[.agg (ec x), .int .i64 c, .agg (wyc m b)] w fun e w' => e = .returned (.bool true) ∧ Chg [] w w' := by
  have HT := Lib.hid ht
  clear ht
  cases h0 : ((askE x c m).2 != 0)
  · by_cases hb : (askE x c m).1.1.bu = 0
    · have tb : ((askE x c m).1.1.bu == 0) = true := by simpa using hb
      clear hb
      go_enter Tryd.func6, Tryd.ntmps6
      try dsimp only [List.append]
      go_wp2_with fail
      refine gen_world2 (w := w) (b1 := w.heap.size) (x1 := .cells (ec (x)) 26 (0, 0)) (b2 := w.heap.size + 1) (x2 := .cells (wyc m b) 50 (0, 0)) (by (repeat' (first | with_reducible exact Chg.refl _ _ | with_reducible assumption | with_reducible refine Chg.drew ?_ | with_reducible refine Chg.drewN ?_ _ | with_reducible refine Chg.alloc ?_ _ | with_reducible refine Chg.putRow ?_ _ _ _ (.inr ?_) | with_reducible refine Chg.setCell ?_ _ _ _ (.inr ?_)  | (show _ ≤ _; first | exact Nat.le_refl _ | omega | (simp; done))))) (by simp [*]) (by simp [*]) fun w1 C1 rE rW => ?_
      have oE := old rE
      have oW := old rW
      have HC1 := Lib.hid C1
      clear C1
      go_region_held3 (fun w' => w'.heap[w.heap.size + 1]? = some (.cells (wyc m b) 50 (0, 0))) (first | exact rW | (simp [*]; done)) (fail)
      all_goals
        go_wp2_with fail
        refine gen_calls3 (w := w) (b1 := w.heap.size) (x1 := .cells (ec (x)) 26 (0, 0)) (b2 := w.heap.size + 1) (x2 := .cells (wyc m b) 50 (0, 0)) (b3 := w1.heap.size) (x3 := .cells (msc m) 28 (0, 0)) (by have := HC1.out; have hz := HC1.out.size; (repeat' (first | with_reducible exact Chg.refl _ _ | with_reducible assumption | with_reducible refine Chg.drew ?_ | with_reducible refine Chg.drewN ?_ _ | with_reducible refine Chg.alloc ?_ _ | with_reducible refine Chg.putRow ?_ _ _ _ (.inr ?_) | with_reducible refine Chg.setCell ?_ _ _ _ (.inr ?_)  | (show _ ≤ _; first | exact Nat.le_refl _ | omega | (simp; done))))) (by simp [*]) (by simp [*]) (by simp [*]) fun w2 C2' rE2 rW2 rM => ?_
        have C2 := Lib.hid C2'
        clear C2' HC1 rE rW oE oW
        generalize w1.heap.size = pM at rM ⊢
        have hc := dask_any x c m w2 (HT.out.keep C2.out (by simp))
        refine hc.mono ?_
        clear hc
        rintro e w4 ⟨A, n1, rfl, hs, _, c4⟩
        have rM4 := c4.keep rM (by simp)
        have C4 := Lib.hid (C2.out.trans c4)
        have AP := Lib.hid hs.apart
        have SS := Lib.hid hs
        clear hs c4 C2 rM rE2 rW2
        have oM := old rM4
        go_wp2_with (go_at_call 20; refine (dwakes _ (HT.out.keep (C4.out.alloc _) (by simp))).mono ?_; rintro e w9 ⟨rfl, c9⟩)
        go_ret
        exact ⟨rfl, (C4.out.alloc _).trans c9⟩
    have tb : ((askE x c m).1.1.bu == 0) = false := by simpa using hb
    obtain ⟨hhe, hgg, hgp, hcc, hli, o, kt, hask, hho, hkk⟩ := ask_busy (by simpa using h0) hb
    clear hb
    have hbit : (bitM c == 0#8) = false := by rw [bit_eq0u, hcc]; rfl
    have hk2 : (kt = 13 ∧ ((m.kd = 1 ∧ o ≠ 0#8) ∨ (m.kd = 4 ∧ o = bitM x.ow))) ∨ (kt = 12 ∧ ((m.kd = 2 ∧ o ≠ 0#8) ∨ (m.kd = 5 ∧ o = holders x))) := by
      rcases hkk with ⟨h1, h2, h3⟩ | ⟨h1, h2, h3⟩ | ⟨h1, h2, h3⟩ | ⟨h1, h2, h3⟩
      · exact .inl ⟨h2, .inl ⟨h1, h3⟩⟩
      · exact .inr ⟨h2, .inl ⟨h1, h3⟩⟩
      · exact .inl ⟨h2, .inr ⟨h1, h3⟩⟩
      · exact .inr ⟨h2, .inr ⟨h1, h3⟩⟩
    clear hkk
    rcases hk2 with ⟨rfl, hkd⟩ | ⟨rfl, hkd⟩
    · cases b
      · exact dends_13f x c m w HT.out h0 tb hhe hgp hcc hli o hask hho hkd hbit
      · exact dends_13t x c m w HT.out h0 tb hhe hgp hcc hli o hask hho hkd hbit
    · cases b
      · exact dends_12f x c m w HT.out h0 tb hhe hgp hcc hli o hask hho hkd hbit
      · exact dends_12t x c m w HT.out h0 tb hhe hgp hcc hli o hask hho hkd hbit
  · skip
    go_enter Tryd.func6, Tryd.ntmps6
    try dsimp only [List.append]
    go_wp2_with fail
    refine gen_world2 (w := w) (b1 := w.heap.size) (x1 := .cells (ec (x)) 26 (0, 0)) (b2 := w.heap.size + 1) (x2 := .cells (wyc m b) 50 (0, 0)) (by (repeat' (first | with_reducible exact Chg.refl _ _ | with_reducible assumption | with_reducible refine Chg.drew ?_ | with_reducible refine Chg.drewN ?_ _ | with_reducible refine Chg.alloc ?_ _ | with_reducible refine Chg.putRow ?_ _ _ _ (.inr ?_) | with_reducible refine Chg.setCell ?_ _ _ _ (.inr ?_)  | (show _ ≤ _; first | exact Nat.le_refl _ | omega | (simp; done))))) (by simp [*]) (by simp [*]) fun w1 C1 rE rW => ?_
    have oE := old rE
    have oW := old rW
    have HC1 := Lib.hid C1
    clear C1
    go_region_held3 (fun w' => w'.heap[w.heap.size + 1]? = some (.cells (wyc m b) 50 (0, 0))) (first | exact rW | (simp [*]; done)) (fail)
    all_goals
      go_wp2_with fail
      refine gen_calls3 (w := w) (b1 := w.heap.size) (x1 := .cells (ec (x)) 26 (0, 0)) (b2 := w.heap.size + 1) (x2 := .cells (wyc m b) 50 (0, 0)) (b3 := w1.heap.size) (x3 := .cells (msc m) 28 (0, 0)) (by have := HC1.out; have hz := HC1.out.size; (repeat' (first | with_reducible exact Chg.refl _ _ | with_reducible assumption | with_reducible refine Chg.drew ?_ | with_reducible refine Chg.drewN ?_ _ | with_reducible refine Chg.alloc ?_ _ | with_reducible refine Chg.putRow ?_ _ _ _ (.inr ?_) | with_reducible refine Chg.setCell ?_ _ _ _ (.inr ?_)  | (show _ ≤ _; first | exact Nat.le_refl _ | omega | (simp; done))))) (by simp [*]) (by simp [*]) (by simp [*]) fun w2 C2' rE2 rW2 rM => ?_
      have C2 := Lib.hid C2'
      clear C2' HC1 rE rW oE oW
      generalize w1.heap.size = pM at rM ⊢
      have hc := dask_any x c m w2 (HT.out.keep C2.out (by simp))
      refine hc.mono ?_
      clear hc
      rintro e w4 ⟨A, n1, rfl, hs, _, c4⟩
      have rM4 := c4.keep rM (by simp)
      have C4 := Lib.hid (C2.out.trans c4)
      have AP := Lib.hid hs.apart
      have SS := Lib.hid hs
      clear hs c4 C2 rM rE2 rW2
      have oM := old rM4
      go_wp2_with (go_at_call 20; refine (dwakes _ (HT.out.keep (C4.out.alloc _) (by simp))).mono ?_; rintro e w9 ⟨rfl, c9⟩)
      go_ret
      exact ⟨rfl, (C4.out.alloc _).trans c9⟩
end Go.Proofs.YtkaabiiedfkaaaaDoor
