/- Diru: walked. No condition. -/
import Derived.Test.YtkaabiiedfkaaaaDoorDirp
import Derived.Test.YtkaabiiedfkaaaaDoorDirq
import Derived.BigQuiet
import Derived.Deep.RegionHeld3
namespace Go.Proofs.YtkaabiiedfkaaaaDoor
open Go.RowKit
set_option linter.unusedVariables false
set_option maxHeartbeats 1000000
attribute [local go_sem ↓] append_appS copy_copS clear_clrS make_mkS slice_slS cell_row frozen_row loadLine storeLine loadMsg storeMsg heap_drew heap_drewN heap_alloc heap_past heap_setCell heap_putRow vs_get msc_kd msc_li msc_di msc_ke
attribute [local go_sem] rowCell_some rowFrozen_some rowHas_some rowIn_some rowPart_full rowPart_lit rowPut_full rowPut_lit rowSet_some size_putRow vs_size vs_one wideLine wideMsg run_loadS run_storeS run_appS run_copS run_clrS run_mkS run_slS loadW_at storeW_at fit_all fit_le one_int one_bool one_pointer one_slice allOne_list putRow_new ne_size1 ne_size2 ne_size3 ne_size4 zero8_length line_eq lit8 msc_size msc_one msc_part msc_in fold_msc
attribute [local simp ↓] heap_drew heap_drewN heap_alloc heap_past heap_setCell heap_putRow
attribute [local simp] rowCell_some rowFrozen_some rowHas_some rowIn_some rowPart_full rowPart_lit rowPut_full rowPut_lit rowSet_some size_putRow vs_size fit_all putRow_new ne_size1 ne_size2 ne_size3 ne_size4 zero8_length msc_size
attribute [local go_sem ↓] ec_he ec_di ec_ow ec_sh ec_bu ec_by ec_wa sc_to
attribute [local go_sem] mi_and mi_or mi_not mi_beq0 mi_bne0 ec_size ec_one ec_part ec_in ec_has ec_setDi ec_setOw ec_setSh ec_setBu ec_setBy ec_setWa ec_setSh0 ec_setWa0 ec_putM sc_size sc_one sc_part sc_in
attribute [local simp] ec_size sc_size ec_setDi ec_setOw ec_setSh ec_setBu ec_setBy ec_setWa ec_setSh0 ec_setWa0 ec_putM
attribute [local go_sem ↓] loadEn storeEn loadSd storeSd en_z0
attribute [local go_sem] wideEn wideSd fold_sc size11 putRow_newB putRow_newC ms5_lit
attribute [local simp] en_z0 putRow_newB putRow_newC fit_le ec_has
attribute [local go_sem ↓] loadEnR storeEnR loadSdR storeSdR
attribute [local go_sem] wideEnR wideSdR
attribute [local go_sem] ec_setHe ec_foldL


theorem danswer4_at (x : En) (c kd li : Int) (di ke : Bool) (r : (En × List Sd) × Int) (h : ansE x c (ms4 kd li di ke) = r) (w : World) (ht : Tab w) : Calls Tryd.prog 21 #[.agg (ec x), .int .i64 c, .agg #[.int .i64 kd, .int .i64 li, .bool di, .bool ke, .int .u64 0, .int .u64 0, .int .u64 0, .int .u64 0, .int .u64 0, .int .u64 0, .int .u64 0, .int .u64 0]] w (En3 w r) := h ▸ danswer_any x c (ms4 kd li di ke) w ht
theorem Sl.chg0 {w w' : World} {size : Nat} {A : Option Addr} {n p : Nat} {xs : List Value} (h : Sl w size A n xs) (hc : Chg [p] w w') (hp : n = 0 ∨ ∀ a, A = some a → a.block ≠ p) : Sl w' size A n xs := by
  rcases hp with h0 | h0
  · exact ⟨h.1, .inl h0⟩
  · exact h.chg hc (fun a ha => by simpa using h0 a ha)
theorem Sl.apart {w : World} {size : Nat} {A : Option Addr} {n : Nat} {xs : List Value} (h : Sl w size A n xs) : n = 0 ∨ ∀ a, A = some a → a.block ≠ w.heap.size := by
  rcases h.2 with h0 | ⟨b, o, c, t, f, rfl, hb, _⟩
  · exact .inl h0
  · right
    intro a ha
    injection ha with ha
    subst ha
    have := lt_heap hb
    show b ≠ _
    omega
theorem gen_exit {Q : Exit → Act → World → Prop} {e : Exit} {a : Act} {w W : World} {b : Nat} {x : Obj} (hc : Chg [] w W) (hb : W.heap[b]? = some x) (h : ∀ W', Chg [] w W' → W'.heap[b]? = some x → Q e a W') : Q e a W := h W hc hb
theorem mi_bneq (a b : Mk) : (mi a != mi b) = (a != b) := by rw [bne, bne, mi_beq]
theorem sh_clean {x y : En} {c : Int} (hg : Gp x) (h : Way7 x (bitM x.ow) 4 c true (coresL (bitM x.ow)) y) : (y.sh != (x.sh ||| bitM x.ow)) = false := by
  rw [bne_eq_false_iff_eq]
  apply mk_ext; intro k hk
  rw [h.sh k hk, if_pos rfl, has_or]
  congr 1
  rw [Bool.eq_iff_iff, decide_eq_true_eq, mem_cores]
theorem sh_wipe {x y : En} {c : Int} (h : Way7 x (holders x) 5 c false (coresL (holders x)) y) : (y.sh != 0#8) = false := by
  rw [bne_eq_false_iff_eq]
  apply mk_ext; intro k hk
  rw [h.sh k hk, has_zero]
  simp only [Bool.false_eq_true, if_false]
  cases hh : hasM x.sh k
  · rfl
  · have : hasM (holders x) k = true := (has_holders x hk).2 (.inl hh)
    have := (mem_cores (holders x) k).2 this
    simp [this]
attribute [local go_sem] mi_bneq
theorem tell_at {o : Mk} {m : Ms} {j : Nat} {d : Int} (h : (coresL o)[j]? = some d) : (tellL o m)[j]? = some ⟨d, m⟩ := by unfold tellL; rw [List.getElem?_map, h]; rfl
theorem tell_length (o : Mk) (m : Ms) : (tellL o m).length = (coresL o).length := by unfold tellL; rw [List.length_map]
theorem bit_eq0u (c : Int) : (bitM c == 0#8) = !(isC c) := by rw [← bit_ne0, bne, Bool.not_not]

set_option maxHeartbeats 8000000 in
set_option maxRecDepth 100000 in
theorem dflushes_any (x : En) (c : Int) (b : Bool) (w : World) (ht : Tab w) : Calls Tryd.prog 8 #[.agg (ec x), .int .i64 c, .bool b] w fun e w' => e = .returned (.bool true) ∧ Chg [] w w' := by
  have HT := Lib.hid ht
  clear ht
  cases g1 : goodE x
  · skip
    go_enter Tryd.func8, Tryd.ntmps8
    try dsimp only [List.append]
    go_wp2_with fail
    refine gen_calls1 (w := w) (b1 := w.heap.size) (x1 := .cells (ec (x)) 26 (0, 0)) (by (repeat' (first | with_reducible exact Chg.refl _ _ | with_reducible assumption | with_reducible refine Chg.drew ?_ | with_reducible refine Chg.drewN ?_ _ | with_reducible refine Chg.alloc ?_ _ | with_reducible refine Chg.putRow ?_ _ _ _ (.inr ?_) | with_reducible refine Chg.setCell ?_ _ _ _ (.inr ?_)  | (show _ ≤ _; first | exact Nat.le_refl _ | omega | (simp; done))))) (by simp [*]) fun w1 C1 rE => ?_
    have oE := old rE
    have HC := Lib.hid C1
    clear C1
    refine (down_any x w1).mono ?_
    rintro e w2 ⟨rfl, c2⟩
    replace rE := c2.keep rE (by simp)
    have C2 := Lib.hid (HC.out.trans c2)
    clear c2 HC oE
    have oE := old rE
    go_wp2_with fail
    refine (down_at x _ g1 w2).mono ?_
    rintro e w3 ⟨rfl, c3⟩
    replace rE := c3.keep rE (by simp)
    have C3 := Lib.hid (C2.out.trans c3)
    clear c3 C2 oE
    have oE := old rE
    go_wp2_with (go_at_call 20; refine (dwakes _ (HT.out.keep C3.out (by simp))).mono ?_; rintro e w9 ⟨rfl, c9⟩)
    go_ret
    exact ⟨rfl, C3.out.trans c9⟩
  cases g2 : x.he
  · skip
    go_enter Tryd.func8, Tryd.ntmps8
    try dsimp only [List.append]
    go_wp2_with fail
    refine gen_calls1 (w := w) (b1 := w.heap.size) (x1 := .cells (ec (x)) 26 (0, 0)) (by (repeat' (first | with_reducible exact Chg.refl _ _ | with_reducible assumption | with_reducible refine Chg.drew ?_ | with_reducible refine Chg.drewN ?_ _ | with_reducible refine Chg.alloc ?_ _ | with_reducible refine Chg.putRow ?_ _ _ _ (.inr ?_) | with_reducible refine Chg.setCell ?_ _ _ _ (.inr ?_)  | (show _ ≤ _; first | exact Nat.le_refl _ | omega | (simp; done))))) (by simp [*]) fun w1 C1 rE => ?_
    have oE := old rE
    have HC := Lib.hid C1
    clear C1
    refine (down_any x w1).mono ?_
    rintro e w2 ⟨rfl, c2⟩
    replace rE := c2.keep rE (by simp)
    have C2 := Lib.hid (HC.out.trans c2)
    clear c2 HC oE
    have oE := old rE
    go_wp2_with fail
    refine (down_at x _ g1 w2).mono ?_
    rintro e w3 ⟨rfl, c3⟩
    replace rE := c3.keep rE (by simp)
    have C3 := Lib.hid (C2.out.trans c3)
    clear c3 C2 oE
    have oE := old rE
    go_wp2_with (go_at_call 20; refine (dwakes _ (HT.out.keep C3.out (by simp))).mono ?_; rintro e w9 ⟨rfl, c9⟩)
    go_ret
    exact ⟨rfl, C3.out.trans c9⟩
  cases g3 : (x.bu != 0)
  rotate_left
  · skip
    go_enter Tryd.func8, Tryd.ntmps8
    try dsimp only [List.append]
    go_wp2_with fail
    refine gen_calls1 (w := w) (b1 := w.heap.size) (x1 := .cells (ec (x)) 26 (0, 0)) (by (repeat' (first | with_reducible exact Chg.refl _ _ | with_reducible assumption | with_reducible refine Chg.drew ?_ | with_reducible refine Chg.drewN ?_ _ | with_reducible refine Chg.alloc ?_ _ | with_reducible refine Chg.putRow ?_ _ _ _ (.inr ?_) | with_reducible refine Chg.setCell ?_ _ _ _ (.inr ?_)  | (show _ ≤ _; first | exact Nat.le_refl _ | omega | (simp; done))))) (by simp [*]) fun w1 C1 rE => ?_
    have oE := old rE
    have HC := Lib.hid C1
    clear C1
    refine (down_any x w1).mono ?_
    rintro e w2 ⟨rfl, c2⟩
    replace rE := c2.keep rE (by simp)
    have C2 := Lib.hid (HC.out.trans c2)
    clear c2 HC oE
    have oE := old rE
    go_wp2_with fail
    refine (down_at x _ g1 w2).mono ?_
    rintro e w3 ⟨rfl, c3⟩
    replace rE := c3.keep rE (by simp)
    have C3 := Lib.hid (C2.out.trans c3)
    clear c3 C2 oE
    have oE := old rE
    go_wp2_with (go_at_call 20; refine (dwakes _ (HT.out.keep C3.out (by simp))).mono ?_; rintro e w9 ⟨rfl, c9⟩)
    go_ret
    exact ⟨rfl, C3.out.trans c9⟩
  cases g4 : isC c
  · have hbit : bitM c = 0#8 := bit_out g4
    go_enter Tryd.func8, Tryd.ntmps8
    try dsimp only [List.append]
    go_wp2_with fail
    refine gen_calls1 (w := w) (b1 := w.heap.size) (x1 := .cells (ec (x)) 26 (0, 0)) (by (repeat' (first | with_reducible exact Chg.refl _ _ | with_reducible assumption | with_reducible refine Chg.drew ?_ | with_reducible refine Chg.drewN ?_ _ | with_reducible refine Chg.alloc ?_ _ | with_reducible refine Chg.putRow ?_ _ _ _ (.inr ?_) | with_reducible refine Chg.setCell ?_ _ _ _ (.inr ?_)  | (show _ ≤ _; first | exact Nat.le_refl _ | omega | (simp; done))))) (by simp [*]) fun w1 C1 rE => ?_
    have oE := old rE
    have HC := Lib.hid C1
    clear C1
    refine (down_any x w1).mono ?_
    rintro e w2 ⟨rfl, c2⟩
    replace rE := c2.keep rE (by simp)
    have C2 := Lib.hid (HC.out.trans c2)
    clear c2 HC oE
    have oE := old rE
    go_wp2_with fail
    refine (down_at x _ g1 w2).mono ?_
    rintro e w3 ⟨rfl, c3⟩
    replace rE := c3.keep rE (by simp)
    have C3 := Lib.hid (C2.out.trans c3)
    clear c3 C2 oE
    have oE := old rE
    go_wp2_with (first | (go_at_call 26; refine (rbit_any _ _).mono ?_; rintro e w' ⟨rfl, rfl⟩; (try rw [hbit])) | (go_at_call 20; refine (dwakes _ (HT.out.keep C3.out (by simp))).mono ?_; rintro e w9 ⟨rfl, c9⟩))
    go_ret
    exact ⟨rfl, C3.out.trans c9⟩
  have hbit : (bitM c == 0#8) = false := by rw [bit_eq0u, g4]; rfl
  have hb0 : x.bu = 0 := by simpa using g3
  have hg := busy0 g2 g1 hb0
  cases b
  · skip
    go_enter Tryd.func8, Tryd.ntmps8
    try dsimp only [List.append]
    go_wp2_with fail
    refine gen_calls1 (w := w) (b1 := w.heap.size) (x1 := .cells (ec (x)) 26 (0, 0)) (by (repeat' (first | with_reducible exact Chg.refl _ _ | with_reducible assumption | with_reducible refine Chg.drew ?_ | with_reducible refine Chg.drewN ?_ _ | with_reducible refine Chg.alloc ?_ _ | with_reducible refine Chg.putRow ?_ _ _ _ (.inr ?_) | with_reducible refine Chg.setCell ?_ _ _ _ (.inr ?_)  | (show _ ≤ _; first | exact Nat.le_refl _ | omega | (simp; done))))) (by simp [*]) fun w1 C1 rE => ?_
    have oE := old rE
    have HC := Lib.hid C1
    clear C1
    refine (down_any x w1).mono ?_
    rintro e w2 ⟨rfl, c2⟩
    replace rE := c2.keep rE (by simp)
    have C2 := Lib.hid (HC.out.trans c2)
    clear c2 HC oE
    have oE := old rE
    go_wp2_with fail
    refine (down_at x _ g1 w2).mono ?_
    rintro e w3 ⟨rfl, c3⟩
    replace rE := c3.keep rE (by simp)
    have C3 := Lib.hid (C2.out.trans c3)
    clear c3 C2 oE
    have oE := old rE
    go_wp2_with (go_at_call 26; refine (rbit_any _ _).mono ?_; rintro e w' ⟨rfl, rfl⟩; (try rw [hbit]))
    have hc := dask_any x c (ms4 4 4 false false) w3 (HT.out.keep C3.out (by simp))
    rw [show askE x c (ms4 4 4 false false) = (waitE x c (ms4 4 4 false false) (bitM x.ow) 13, 0) from by simp [askE, askArg, g1, g4, asksB, hb0, g2, deedE, cleanE, mg, ms4, kindB, lineB]] at hc
    rw [ms4_lit 4 4 false false]
    refine hc.mono ?_
    clear hc
    rintro e w4 ⟨A, n1, rfl, hs, _, c4⟩
    replace rE := c4.keep rE (by simp)
    have C4 := Lib.hid (C3.out.trans c4)
    clear c4 C3 oE
    have oE := old rE
    have AP := Lib.hid hs.apart
    have SS := Lib.hid hs
    clear hs
    have v1 : (waitE x c (ms4 4 4 false false) (bitM x.ow) 13).1.bu = 4 := rfl
    have v2 : ((waitE x c (ms4 4 4 false false) (bitM x.ow) 13).1.by_ != c) = false := by rw [show (waitE x c (ms4 4 4 false false) (bitM x.ow) 13).1.by_ = c from rfl]; simp
    go_wp2_with fail
    have C4x := C4
    have oEx := oE
    have cb := (Chg.refl [] w4).alloc (.cells (ec ((waitE x c (ms4 4 4 false false) (bitM x.ow) 13).1)) 26 (0, 0))
    have rA : (w4.alloc (.cells (ec ((waitE x c (ms4 4 4 false false) (bitM x.ow) 13).1)) 26 (0, 0))).heap[w4.heap.size]? = some (.cells (ec ((waitE x c (ms4 4 4 false false) (bitM x.ow) 13).1)) 26 (0, 0)) := by simp
    replace rE := cb.keep rE (by simp)
    replace SS := Lib.hid (SS.out.chg cb (by simp))
    have C5 := Lib.hid (C4.out.trans cb)
    clear cb C4 oE
    have HPA := Lib.hid (show w.heap.size ≤ w4.heap.size from C4x.out.size)
    have HEA := Lib.hid (show w.heap.size ≠ w4.heap.size from Nat.ne_of_lt oEx.lt)
    generalize w4.heap.size = pA at rA AP HPA HEA ⊢
    generalize w4.alloc (.cells (ec ((waitE x c (ms4 4 4 false false) (bitM x.ow) 13).1)) 26 (0, 0)) = w5 at rA C5 rE SS ⊢
    have oE := old rE
    have oA := old rA
    clear C4x oEx
    have I0 := Lib.hid (show Inv7 x (bitM x.ow) 4 c 4 true (coresL (bitM x.ow)) 0 (waitE x c (ms4 4 4 false false) (bitM x.ow) 13).1 from Inv7.start g2 hg.1 c g4 (ms4 4 4 false false) (bitM x.ow) 13 (by simp) true (coresL (bitM x.ow)) (cores_ord (bitM x.ow)) hold_bit (.inl rfl))
    have hlen := tell_length (bitM x.ow) (ms4 13 4 false false)
    have SS' := Lib.hid (show Sl w5 13 A (coresL (bitM x.ow)).length (cat Sd.enc (tellL (bitM x.ow) (ms4 13 4 false false))) by rw [← hlen]; exact SS.out)
    have AP' := Lib.hid (show (coresL (bitM x.ow)).length = 0 ∨ ∀ a, A = some a → a.block ≠ pA by rw [← hlen]; exact AP.out)
    rw [show (waitE x c (ms4 4 4 false false) (bitM x.ow) 13).2.length = (coresL (bitM x.ow)).length from hlen]
    clear SS AP hlen
    have h8 : (coresL (bitM x.ow)).length ≤ 8 := coresTo_len _ 8
    generalize (waitE x c (ms4 4 4 false false) (bitM x.ow) 13).1 = a0 at rA I0 v1 v2 ⊢
    obtain ⟨N, hN⟩ : ∃ N, N = (coresL (bitM x.ow)).length := ⟨_, rfl⟩
    rw [← hN] at h8 ⊢
    have HN := Lib.hid hN
    clear hN
    go_wp2_with fail
    go_loopw [12] (fun i wr => ∃ (j : Nat) (y : En), j ≤ N ∧ i = .int .i64 j ∧ Chg [] w wr ∧ wr.heap[w.heap.size]? = some (.cells (ec (x)) 26 (0, 0)) ∧ wr.heap[pA]? = some (.cells (ec (y)) 26 (0, 0)) ∧ Sl wr 13 A N (cat Sd.enc (tellL (bitM x.ow) (ms4 13 4 false false))) ∧ Inv7 x (bitM x.ow) 4 c 4 true (coresL (bitM x.ow)) j y) (fun i _ => N - (intOf i).toNat)
    case atStart => exact ⟨0, a0, by omega, rfl, C5.out, rE, rA, by rw [HN.out]; exact SS'.out, I0.out⟩
    case round =>
      obtain ⟨j, y, hj, rfl, hc, rEr, rAr, hsl, hinv⟩ := hrel
      have HC := Lib.hid hc
      have HI := Lib.hid hinv
      have HSL := Lib.hid hsl
      have TR := HT.out.keep hc (by simp)
      clear hc hinv hsl
      by_cases hlt : j < N
      · obtain ⟨d, hd⟩ : ∃ d, (coresL (bitM x.ow))[j]? = some d := ⟨(coresL (bitM x.ow))[j]'(by rw [← HN.out]; exact hlt), List.getElem?_eq_getElem _⟩
        obtain ⟨y', ss', hans, hinv', _, _⟩ := HI.out.step (cores_ord (bitM x.ow)) (by rw [← HN.out]; exact hlt) (ms4 7 4 false true) (am_dn 4 rfl) hd
        have HI' := Lib.hid hinv'
        obtain ⟨b, off, cs, tt, ff, rfl, hb, i0, _, _, _⟩ := HSL.out.sd (tell_at (m := ms4 13 4 false false) hd)
        have g1' : (j : Int) < (N : Int) := by omega
        have g0 : (0 : Int) ≤ (j : Int) := by omega
        have g2' : (N : Int) ≤ 8 := by omega
        have oEr := old rEr
        have oAr := old rAr
        have obr := old hb
        have HB := Lib.hid hb
        have HR := Lib.hid rEr
        clear hinv' hd rEr
        go_wp2_with fail
        go_region_held3 (fun w' => w'.heap[pA]? = some (.cells (ec (y)) 26 (0, 0)) ∧ w'.heap[b]? = some (.cells cs tt ff)) (first | exact ⟨rAr, hb⟩ | exact ⟨kA (by first | exact rAr | (simp [rAr]; done)), kb (by first | exact hb | (simp [hb]; done))⟩ | (have kA' := kA (by first | exact rAr | (simp [rAr]; done)); have kb' := kb (by first | exact hb | (simp [hb]; done)); have oA' := old kA'; have ob' := old kb'; simp [kA', kb']; done) | (exact ⟨Chg.keep ((Chg.refl [wr.heap.size] w').putRow wr.heap.size 0 _ (.inl (by simp))) (kA (by first | exact rAr | (simp [rAr]; done))) (by have := oAr.lt; simp; omega), Chg.keep ((Chg.refl [wr.heap.size] w').putRow wr.heap.size 0 _ (.inl (by simp))) (kb (by first | exact hb | (simp [hb]; done))) (by have := obr.lt; simp; omega)⟩) | (simp [rAr, hb]; done))
          ((go_at_call 21; refine (danswer4_at _ _ _ _ _ _ _ hans _ ?_).mono ?_; exact (by first | exact TR | exact TR.keep ((Chg.refl [] _).alloc _) (by simp) | exact (TR.keep (Chg.refl [] _).drew (by simp)) | exact (TR.keep ((Chg.refl [] _).drew.alloc _) (by simp))); rintro e w' ⟨A2, n2, rfl, hs2, _, c2⟩; (have rB2 := fun h => c2.keep (x := .cells (ec (enZ)) 26 (0, 0)) (k := wr.heap.size) h (by simp)); (have kA := fun h => c2.keep (x := .cells (ec (y)) 26 (0, 0)) (k := pA) h (by simp)); (have kb := fun h => c2.keep (x := .cells cs tt ff) (k := b) h (by simp))))
        · refine gen_exit (w := wr) (b := w'.heap.size) (x := .cells (ec (y')) 26 (0, 0)) (by (repeat' (first | with_reducible exact Chg.refl _ _ | with_reducible assumption | with_reducible refine Chg.drew ?_ | with_reducible refine Chg.drewN ?_ _ | with_reducible refine Chg.alloc ?_ _ | with_reducible refine Chg.putRow ?_ _ _ _ (.inr ?_) | with_reducible refine Chg.setCell ?_ _ _ _ (.inr ?_)  | with_reducible refine Chg.trans ?_ c2 | with_reducible refine Chg.trans (b := World.drew _) ?_ c2 | (show _ ≤ _; first | exact Nat.le_refl _ | omega | (simp; done))))) (by simp) fun wq cW rB => ?_
          generalize w'.heap.size = pB at rB ⊢
          have rE2 := Lib.hid (cW.keep HR.out (by simp))
          have rA2 := cW.keep rAr (by simp)
          have sl2 := Lib.hid (HSL.out.chg cW (by simp))
          have HC2 := Lib.hid (HC.out.trans cW)
          clear c2 rB2 kA kb cW rAr hb HC HSL TR
          have oA2 := old rA2
          have oB2 := old rB
          go_wp2_with fail
          go_roundw
          case rel => exact ⟨j + 1, y', by omega, by go_num, HC2.out.putRow pA 0 _ (.inr HPA.out), ((Chg.refl [pA] wq).putRow pA 0 _ (.inl (by simp))).keep rE2.out (by simpa using HEA.out), by simp [rA2], sl2.out.chg0 ((Chg.refl [pA] wq).putRow pA 0 _ (.inl (by simp))) (by rw [HN.out]; exact AP'.out), HI'.out⟩
          case measure => simp [intOf]; omega
        · refine gen_exit (w := wr) (b := wr.heap.size) (x := .cells (ec (y')) 26 (0, 0)) (by (repeat' (first | with_reducible exact Chg.refl _ _ | with_reducible assumption | with_reducible refine Chg.drew ?_ | with_reducible refine Chg.drewN ?_ _ | with_reducible refine Chg.alloc ?_ _ | with_reducible refine Chg.putRow ?_ _ _ _ (.inr ?_) | with_reducible refine Chg.setCell ?_ _ _ _ (.inr ?_)  | with_reducible refine Chg.trans ?_ c2 | with_reducible refine Chg.trans (b := World.drew _) ?_ c2 | (show _ ≤ _; first | exact Nat.le_refl _ | omega | (simp; done))))) (by simp [rB2 (by simp)]) fun wq cW rB => ?_
          generalize wr.heap.size = pB at rB ⊢
          have rE2 := Lib.hid (cW.keep HR.out (by simp))
          have rA2 := cW.keep rAr (by simp)
          have sl2 := Lib.hid (HSL.out.chg cW (by simp))
          have HC2 := Lib.hid (HC.out.trans cW)
          clear c2 rB2 kA kb cW rAr hb HC HSL TR
          have oA2 := old rA2
          have oB2 := old rB
          go_wp2_with fail
          go_roundw
          case rel => exact ⟨j + 1, y', by omega, by go_num, HC2.out.putRow pA 0 _ (.inr HPA.out), ((Chg.refl [pA] wq).putRow pA 0 _ (.inl (by simp))).keep rE2.out (by simpa using HEA.out), by simp [rA2], sl2.out.chg0 ((Chg.refl [pA] wq).putRow pA 0 _ (.inl (by simp))) (by rw [HN.out]; exact AP'.out), HI'.out⟩
          case measure => simp [intOf]; omega
      · obtain rfl : j = N := by omega
        have hinv := HI.out
        rw [HN.out] at hinv
        obtain ⟨q1, q2, q3, q4⟩ := ended_flush (cores_ord (bitM x.ow)) (.inl rfl) g4 (fun h => own_none hg.1 h) hinv
        have q5 := sh_clean hg.1 q3
        have q6 : (x.ow != -1) = true ∨ True := .inr trivial
        have hpu : pushedE y = (((overE y).setDi false, [⟨c, ms4 14 0 false false⟩]), 0) := by
          unfold pushedE; rw [if_pos q1, q3.by_, tell_one g4]
        have QL := Lib.hid q3.l
        clear q3 q4 q6 hinv HI HSL hlt hj
        have rEr' := rEr
        go_wp2_with fail
        refine gen_world2 (w := w) (b1 := w.heap.size) (x1 := .cells (ec (x)) 26 (0, 0)) (b2 := pA) (x2 := .cells (ec (y)) 26 (0, 0)) (by have := HC.out; (repeat' (first | with_reducible exact Chg.refl _ _ | with_reducible assumption | with_reducible refine Chg.drew ?_ | with_reducible refine Chg.drewN ?_ _ | with_reducible refine Chg.alloc ?_ _ | with_reducible refine Chg.putRow ?_ _ _ _ (.inr ?_) | with_reducible refine Chg.setCell ?_ _ _ _ (.inr ?_)  | (show _ ≤ _; first | exact Nat.le_refl _ | omega | (simp; done))))) (by simp [rEr]) (by simp [rAr]) fun w6 C6 rE6 rA6 => ?_
        have hx : ∀ z : Aft w6.heap.size w6, z.w.heap[w.heap.size]? = some (.cells (ec (x)) 26 (0, 0)) := fun z => (z.block (old rE6).lt).trans rE6
        have hy : ∀ z : Aft w6.heap.size w6, z.w.heap[pA]? = some (.cells (ec (y)) 26 (0, 0)) := fun z => (z.block (old rA6).lt).trans rA6
        have HC6 := Lib.hid C6
        clear C6 rEr rEr' rAr HC TR
        refine wp_region_aft w6.heap.size (by kernel_rfl) (by kernel_rfl) ?_
        repeat (go_big_quiet_step (first
          | (go_at_call 26; exact calls_aft_same (rbit_any _ _))
          | (go_at_call 14; exact calls_aftR (Nat.le_refl _) (dready_at y true q1 _))))
        refine wpQuiet_nil ?_
        rintro _ ⟨z, rfl⟩
        have rE7 := hx z
        have rA7 := hy z
        have C7 := Lib.hid (HC6.out.trans (Below.chg z.below (Nat.le_refl _)))
        generalize z.w = w7 at rE7 rA7 C7 ⊢
        clear hx hy HC6 rE6 rA6
        have oE7 := old rE7
        have oA7 := old rA7
        go_wp2_with fail
        have hc := dpushed_any y w7 (HT.out.keep C7.out (by simp)).old
        rw [hpu] at hc
        refine hc.mono ?_
        clear hc hpu
        rintro e w8 ⟨A3, n3, rfl, hs, _, c8⟩
        have rE8 := c8.keep rE7 (by simp)
        have C8 := Lib.hid (C7.out.trans c8)
        clear rE7 rA7 oE7 oA7 C7 c8
        have oE8 := old rE8
        obtain ⟨b3, o3, cs3, t3, f3, rfl, hb3, i30, i31, _, _⟩ := hs.sd (i := 0) rfl
        simp only [Nat.zero_mul, Nat.add_zero] at i30 i31
        have he := fun W => line_eq y.l x.l y.h x.h W
        have hll : (y.l == x.l) = true := by rw [QL.out]; simp
        have v5 : ((overE y).setDi false).bu = 0 := rfl
        have v6 : ((overE y).setDi false).di = false := rfl
        have v7 : ((overE y).setDi false).l = y.l := rfl
        have oo3 := old hb3
        clear hs
        go_wp2_with (go_at_call 20; refine (dwakes _ (HT.out.keep (C8.out.alloc _) (by simp))).mono ?_; rintro e w9 ⟨rfl, c9⟩)
        go_ret
        exact ⟨rfl, (C8.out.alloc _).trans c9⟩
  · skip
    go_enter Tryd.func8, Tryd.ntmps8
    try dsimp only [List.append]
    go_wp2_with fail
    refine gen_calls1 (w := w) (b1 := w.heap.size) (x1 := .cells (ec (x)) 26 (0, 0)) (by (repeat' (first | with_reducible exact Chg.refl _ _ | with_reducible assumption | with_reducible refine Chg.drew ?_ | with_reducible refine Chg.drewN ?_ _ | with_reducible refine Chg.alloc ?_ _ | with_reducible refine Chg.putRow ?_ _ _ _ (.inr ?_) | with_reducible refine Chg.setCell ?_ _ _ _ (.inr ?_)  | (show _ ≤ _; first | exact Nat.le_refl _ | omega | (simp; done))))) (by simp [*]) fun w1 C1 rE => ?_
    have oE := old rE
    have HC := Lib.hid C1
    clear C1
    refine (down_any x w1).mono ?_
    rintro e w2 ⟨rfl, c2⟩
    replace rE := c2.keep rE (by simp)
    have C2 := Lib.hid (HC.out.trans c2)
    clear c2 HC oE
    have oE := old rE
    go_wp2_with fail
    refine (down_at x _ g1 w2).mono ?_
    rintro e w3 ⟨rfl, c3⟩
    replace rE := c3.keep rE (by simp)
    have C3 := Lib.hid (C2.out.trans c3)
    clear c3 C2 oE
    have oE := old rE
    go_wp2_with (go_at_call 26; refine (rbit_any _ _).mono ?_; rintro e w' ⟨rfl, rfl⟩; (try rw [hbit]))
    have hc := dask_any x c (ms4 5 4 false false) w3 (HT.out.keep C3.out (by simp))
    rw [show askE x c (ms4 5 4 false false) = (waitE x c (ms4 5 4 false false) (holders x) 12, 0) from by simp [askE, askArg, g1, g4, asksB, hb0, g2, deedE, wipeE, mg, ms4, kindB, lineB]] at hc
    rw [ms4_lit 5 4 false false]
    refine hc.mono ?_
    clear hc
    rintro e w4 ⟨A, n1, rfl, hs, _, c4⟩
    replace rE := c4.keep rE (by simp)
    have C4 := Lib.hid (C3.out.trans c4)
    clear c4 C3 oE
    have oE := old rE
    have AP := Lib.hid hs.apart
    have SS := Lib.hid hs
    clear hs
    have v1 : (waitE x c (ms4 5 4 false false) (holders x) 12).1.bu = 5 := rfl
    have v2 : ((waitE x c (ms4 5 4 false false) (holders x) 12).1.by_ != c) = false := by rw [show (waitE x c (ms4 5 4 false false) (holders x) 12).1.by_ = c from rfl]; simp
    go_wp2_with fail
    have C4x := C4
    have oEx := oE
    have cb := (Chg.refl [] w4).alloc (.cells (ec ((waitE x c (ms4 5 4 false false) (holders x) 12).1)) 26 (0, 0))
    have rA : (w4.alloc (.cells (ec ((waitE x c (ms4 5 4 false false) (holders x) 12).1)) 26 (0, 0))).heap[w4.heap.size]? = some (.cells (ec ((waitE x c (ms4 5 4 false false) (holders x) 12).1)) 26 (0, 0)) := by simp
    replace rE := cb.keep rE (by simp)
    replace SS := Lib.hid (SS.out.chg cb (by simp))
    have C5 := Lib.hid (C4.out.trans cb)
    clear cb C4 oE
    have HPA := Lib.hid (show w.heap.size ≤ w4.heap.size from C4x.out.size)
    have HEA := Lib.hid (show w.heap.size ≠ w4.heap.size from Nat.ne_of_lt oEx.lt)
    generalize w4.heap.size = pA at rA AP HPA HEA ⊢
    generalize w4.alloc (.cells (ec ((waitE x c (ms4 5 4 false false) (holders x) 12).1)) 26 (0, 0)) = w5 at rA C5 rE SS ⊢
    have oE := old rE
    have oA := old rA
    clear C4x oEx
    have I0 := Lib.hid (show Inv7 x (holders x) 5 c 4 false (coresL (holders x)) 0 (waitE x c (ms4 5 4 false false) (holders x) 12).1 from Inv7.start g2 hg.1 c g4 (ms4 5 4 false false) (holders x) 12 (by simp) false (coresL (holders x)) (cores_ord (holders x)) (fun k hk h => (has_holders x hk).1 h) (.inr (.inl rfl)))
    have hlen := tell_length (holders x) (ms4 12 4 false false)
    have SS' := Lib.hid (show Sl w5 13 A (coresL (holders x)).length (cat Sd.enc (tellL (holders x) (ms4 12 4 false false))) by rw [← hlen]; exact SS.out)
    have AP' := Lib.hid (show (coresL (holders x)).length = 0 ∨ ∀ a, A = some a → a.block ≠ pA by rw [← hlen]; exact AP.out)
    rw [show (waitE x c (ms4 5 4 false false) (holders x) 12).2.length = (coresL (holders x)).length from hlen]
    clear SS AP hlen
    have h8 : (coresL (holders x)).length ≤ 8 := coresTo_len _ 8
    generalize (waitE x c (ms4 5 4 false false) (holders x) 12).1 = a0 at rA I0 v1 v2 ⊢
    obtain ⟨N, hN⟩ : ∃ N, N = (coresL (holders x)).length := ⟨_, rfl⟩
    rw [← hN] at h8 ⊢
    have HN := Lib.hid hN
    clear hN
    go_wp2_with fail
    go_loopw [12] (fun i wr => ∃ (j : Nat) (y : En), j ≤ N ∧ i = .int .i64 j ∧ Chg [] w wr ∧ wr.heap[w.heap.size]? = some (.cells (ec (x)) 26 (0, 0)) ∧ wr.heap[pA]? = some (.cells (ec (y)) 26 (0, 0)) ∧ Sl wr 13 A N (cat Sd.enc (tellL (holders x) (ms4 12 4 false false))) ∧ Inv7 x (holders x) 5 c 4 false (coresL (holders x)) j y) (fun i _ => N - (intOf i).toNat)
    case atStart => exact ⟨0, a0, by omega, rfl, C5.out, rE, rA, by rw [HN.out]; exact SS'.out, I0.out⟩
    case round =>
      obtain ⟨j, y, hj, rfl, hc, rEr, rAr, hsl, hinv⟩ := hrel
      have HC := Lib.hid hc
      have HI := Lib.hid hinv
      have HSL := Lib.hid hsl
      have TR := HT.out.keep hc (by simp)
      clear hc hinv hsl
      by_cases hlt : j < N
      · obtain ⟨d, hd⟩ : ∃ d, (coresL (holders x))[j]? = some d := ⟨(coresL (holders x))[j]'(by rw [← HN.out]; exact hlt), List.getElem?_eq_getElem _⟩
        obtain ⟨y', ss', hans, hinv', _, _⟩ := HI.out.step (cores_ord (holders x)) (by rw [← HN.out]; exact hlt) (ms4 6 4 false false) (am_inv 4 rfl) hd
        have HI' := Lib.hid hinv'
        obtain ⟨b, off, cs, tt, ff, rfl, hb, i0, _, _, _⟩ := HSL.out.sd (tell_at (m := ms4 12 4 false false) hd)
        have g1' : (j : Int) < (N : Int) := by omega
        have g0 : (0 : Int) ≤ (j : Int) := by omega
        have g2' : (N : Int) ≤ 8 := by omega
        have oEr := old rEr
        have oAr := old rAr
        have obr := old hb
        have HB := Lib.hid hb
        have HR := Lib.hid rEr
        clear hinv' hd rEr
        go_wp2_with fail
        go_region_held3 (fun w' => w'.heap[pA]? = some (.cells (ec (y)) 26 (0, 0)) ∧ w'.heap[b]? = some (.cells cs tt ff)) (first | exact ⟨rAr, hb⟩ | exact ⟨kA (by first | exact rAr | (simp [rAr]; done)), kb (by first | exact hb | (simp [hb]; done))⟩ | (have kA' := kA (by first | exact rAr | (simp [rAr]; done)); have kb' := kb (by first | exact hb | (simp [hb]; done)); have oA' := old kA'; have ob' := old kb'; simp [kA', kb']; done) | (exact ⟨Chg.keep ((Chg.refl [wr.heap.size] w').putRow wr.heap.size 0 _ (.inl (by simp))) (kA (by first | exact rAr | (simp [rAr]; done))) (by have := oAr.lt; simp; omega), Chg.keep ((Chg.refl [wr.heap.size] w').putRow wr.heap.size 0 _ (.inl (by simp))) (kb (by first | exact hb | (simp [hb]; done))) (by have := obr.lt; simp; omega)⟩) | (simp [rAr, hb]; done))
          ((go_at_call 21; refine (danswer4_at _ _ _ _ _ _ _ hans _ ?_).mono ?_; exact (by first | exact TR | exact TR.keep ((Chg.refl [] _).alloc _) (by simp) | exact (TR.keep (Chg.refl [] _).drew (by simp)) | exact (TR.keep ((Chg.refl [] _).drew.alloc _) (by simp))); rintro e w' ⟨A2, n2, rfl, hs2, _, c2⟩; (have rB2 := fun h => c2.keep (x := .cells (ec (enZ)) 26 (0, 0)) (k := wr.heap.size) h (by simp)); (have kA := fun h => c2.keep (x := .cells (ec (y)) 26 (0, 0)) (k := pA) h (by simp)); (have kb := fun h => c2.keep (x := .cells cs tt ff) (k := b) h (by simp))))
        · refine gen_exit (w := wr) (b := w'.heap.size) (x := .cells (ec (y')) 26 (0, 0)) (by (repeat' (first | with_reducible exact Chg.refl _ _ | with_reducible assumption | with_reducible refine Chg.drew ?_ | with_reducible refine Chg.drewN ?_ _ | with_reducible refine Chg.alloc ?_ _ | with_reducible refine Chg.putRow ?_ _ _ _ (.inr ?_) | with_reducible refine Chg.setCell ?_ _ _ _ (.inr ?_)  | with_reducible refine Chg.trans ?_ c2 | with_reducible refine Chg.trans (b := World.drew _) ?_ c2 | (show _ ≤ _; first | exact Nat.le_refl _ | omega | (simp; done))))) (by simp) fun wq cW rB => ?_
          generalize w'.heap.size = pB at rB ⊢
          have rE2 := Lib.hid (cW.keep HR.out (by simp))
          have rA2 := cW.keep rAr (by simp)
          have sl2 := Lib.hid (HSL.out.chg cW (by simp))
          have HC2 := Lib.hid (HC.out.trans cW)
          clear c2 rB2 kA kb cW rAr hb HC HSL TR
          have oA2 := old rA2
          have oB2 := old rB
          go_wp2_with fail
          go_roundw
          case rel => exact ⟨j + 1, y', by omega, by go_num, HC2.out.putRow pA 0 _ (.inr HPA.out), ((Chg.refl [pA] wq).putRow pA 0 _ (.inl (by simp))).keep rE2.out (by simpa using HEA.out), by simp [rA2], sl2.out.chg0 ((Chg.refl [pA] wq).putRow pA 0 _ (.inl (by simp))) (by rw [HN.out]; exact AP'.out), HI'.out⟩
          case measure => simp [intOf]; omega
        · refine gen_exit (w := wr) (b := wr.heap.size) (x := .cells (ec (y')) 26 (0, 0)) (by (repeat' (first | with_reducible exact Chg.refl _ _ | with_reducible assumption | with_reducible refine Chg.drew ?_ | with_reducible refine Chg.drewN ?_ _ | with_reducible refine Chg.alloc ?_ _ | with_reducible refine Chg.putRow ?_ _ _ _ (.inr ?_) | with_reducible refine Chg.setCell ?_ _ _ _ (.inr ?_)  | with_reducible refine Chg.trans ?_ c2 | with_reducible refine Chg.trans (b := World.drew _) ?_ c2 | (show _ ≤ _; first | exact Nat.le_refl _ | omega | (simp; done))))) (by simp [rB2 (by simp)]) fun wq cW rB => ?_
          generalize wr.heap.size = pB at rB ⊢
          have rE2 := Lib.hid (cW.keep HR.out (by simp))
          have rA2 := cW.keep rAr (by simp)
          have sl2 := Lib.hid (HSL.out.chg cW (by simp))
          have HC2 := Lib.hid (HC.out.trans cW)
          clear c2 rB2 kA kb cW rAr hb HC HSL TR
          have oA2 := old rA2
          have oB2 := old rB
          go_wp2_with fail
          go_roundw
          case rel => exact ⟨j + 1, y', by omega, by go_num, HC2.out.putRow pA 0 _ (.inr HPA.out), ((Chg.refl [pA] wq).putRow pA 0 _ (.inl (by simp))).keep rE2.out (by simpa using HEA.out), by simp [rA2], sl2.out.chg0 ((Chg.refl [pA] wq).putRow pA 0 _ (.inl (by simp))) (by rw [HN.out]; exact AP'.out), HI'.out⟩
          case measure => simp [intOf]; omega
      · obtain rfl : j = N := by omega
        have hinv := HI.out
        rw [HN.out] at hinv
        obtain ⟨q1, q2, q3, q4⟩ := ended_flush (cores_ord (holders x)) (.inr rfl) g4 (fun h => hold_none hg.1 h) hinv
        have q5 := sh_wipe q3
        have q6 : (x.ow != -1) = true ∨ True := .inr trivial
        have hpu : pushedE y = (((overE y).setDi false, [⟨c, ms4 14 0 false false⟩]), 0) := by
          unfold pushedE; rw [if_pos q1, q3.by_, tell_one g4]
        have QL := Lib.hid q3.l
        clear q3 q4 q6 hinv HI HSL hlt hj
        have rEr' := rEr
        go_wp2_with fail
        refine gen_world2 (w := w) (b1 := w.heap.size) (x1 := .cells (ec (x)) 26 (0, 0)) (b2 := pA) (x2 := .cells (ec (y)) 26 (0, 0)) (by have := HC.out; (repeat' (first | with_reducible exact Chg.refl _ _ | with_reducible assumption | with_reducible refine Chg.drew ?_ | with_reducible refine Chg.drewN ?_ _ | with_reducible refine Chg.alloc ?_ _ | with_reducible refine Chg.putRow ?_ _ _ _ (.inr ?_) | with_reducible refine Chg.setCell ?_ _ _ _ (.inr ?_)  | (show _ ≤ _; first | exact Nat.le_refl _ | omega | (simp; done))))) (by simp [rEr]) (by simp [rAr]) fun w6 C6 rE6 rA6 => ?_
        have hx : ∀ z : Aft w6.heap.size w6, z.w.heap[w.heap.size]? = some (.cells (ec (x)) 26 (0, 0)) := fun z => (z.block (old rE6).lt).trans rE6
        have hy : ∀ z : Aft w6.heap.size w6, z.w.heap[pA]? = some (.cells (ec (y)) 26 (0, 0)) := fun z => (z.block (old rA6).lt).trans rA6
        have HC6 := Lib.hid C6
        clear C6 rEr rEr' rAr HC TR
        refine wp_region_aft w6.heap.size (by kernel_rfl) (by kernel_rfl) ?_
        repeat (go_big_quiet_step (first
          | (go_at_call 26; exact calls_aft_same (rbit_any _ _))
          | (go_at_call 14; exact calls_aftR (Nat.le_refl _) (dready_at y true q1 _))))
        refine wpQuiet_nil ?_
        rintro _ ⟨z, rfl⟩
        have rE7 := hx z
        have rA7 := hy z
        have C7 := Lib.hid (HC6.out.trans (Below.chg z.below (Nat.le_refl _)))
        generalize z.w = w7 at rE7 rA7 C7 ⊢
        clear hx hy HC6 rE6 rA6
        have oE7 := old rE7
        have oA7 := old rA7
        go_wp2_with fail
        have hc := dpushed_any y w7 (HT.out.keep C7.out (by simp)).old
        rw [hpu] at hc
        refine hc.mono ?_
        clear hc hpu
        rintro e w8 ⟨A3, n3, rfl, hs, _, c8⟩
        have rE8 := c8.keep rE7 (by simp)
        have C8 := Lib.hid (C7.out.trans c8)
        clear rE7 rA7 oE7 oA7 C7 c8
        have oE8 := old rE8
        obtain ⟨b3, o3, cs3, t3, f3, rfl, hb3, i30, i31, _, _⟩ := hs.sd (i := 0) rfl
        simp only [Nat.zero_mul, Nat.add_zero] at i30 i31
        have he := fun W => line_eq y.l x.l y.h x.h W
        have hll : (y.l == x.l) = true := by rw [QL.out]; simp
        have v5 : ((overE y).setDi false).bu = 0 := rfl
        have v6 : ((overE y).setDi false).di = false := rfl
        have v7 : ((overE y).setDi false).l = y.l := rfl
        have oo3 := old hb3
        clear hs
        go_wp2_with (go_at_call 20; refine (dwakes _ (HT.out.keep (C8.out.alloc _) (by simp))).mono ?_; rintro e w9 ⟨rfl, c9⟩)
        go_ret
        exact ⟨rfl, (C8.out.alloc _).trans c9⟩
end Go.Proofs.YtkaabiiedfkaaaaDoor
