/- OrderEnds: walked. No condition. -/
import Derived.Test.YtnocekhgabgffaaOrq
import Derived.Test.YtnocekhgabgffaaOrd
import Derived.Test.YtnocekhgabgffaaOrp
import Derived.Test.YtnocekhgabgffaaLines
namespace Go.Proofs.Ytnocekhgabgffaa
open Go.RowKit
set_option linter.unusedVariables false
set_option maxHeartbeats 1000000

set_option maxRecDepth 100000
attribute [local go_sem ↓] append_appS copy_copS clear_clrS make_mkS slice_slS lookup_lookS mput_mputS del_mdelS cell_row frozen_row heap_drew heap_drewN heap_alloc heap_past heap_setCell heap_putRow heap_setB loadEv storeEv loadBe storeBe loadSp storeSp loadNw storeNw loadLine storeLine evc_kd evc_co evc_li evc_wo evc_va bec_fl bec_li bec_wo bec_va nwC_0 nwC_1 spC_0 spC_1
attribute [local go_sem] rowCell_some rowFrozen_some rowHas_some rowIn_some rowPart_full rowPart_lit rowPut_full rowPut_lit rowSet_some size_putRow size_setB run_loadS run_storeS run_appS run_copS run_clrS run_mkS run_slS run_lookS run_mputS run_mdelS loadW_at storeW_at fit_all fit_le one_int one_bool one_pointer one_slice allOne_list putRow_new ne_size1 ne_size2 ne_size3 ne_size4 wideEv wideBe wideSp wideNw wideLine evc_size evc_one evc_ne evc_lit evc_z fold_evc bec_size bec_one bec_lit bec_ne bec_at bec_in spC_size spC_one nwC_size nwC_one nwC_ne nwC_set0 nwC_set1 nwC_lit bec_set0 bec_set1 bec_set2 bec_set3 spC_set0 spC_set1 spC_lit fold_spC spC_ne fold_nwC fold_bec fold_at vs_size vs_one ic_size ic_get
attribute [local simp ↓] heap_drew heap_drewN heap_alloc heap_past heap_setCell heap_putRow heap_setB
attribute [local simp] rowCell_some rowFrozen_some rowHas_some rowIn_some rowPart_full rowPart_lit rowPut_full rowPut_lit rowSet_some size_putRow size_setB fit_all putRow_new ne_size1 ne_size2 ne_size3 ne_size4 evc_size bec_size spC_size nwC_size vs_size fit_le
attribute [local go_sem ↓] loadCf storeCf
attribute [local go_sem] wideCf
attribute [local go_sem ↓] evc_set0 evc_set1 evc_set2 evc_set3 evc_set4
attribute [local go_sem] evZ_kd evZ_co evZ_li evZ_wo evZ_va
theorem two_new18 (w : World) (a b : Obj) : ((w.alloc a).alloc b).heap[w.heap.size]? = some a ∧ ((w.alloc a).alloc b).heap[w.heap.size + 1]? = some b ∧ Chg [] w ((w.alloc a).alloc b) := by
  have h1 := (MapKept.heap_alloc w a).1
  have h2 := (MapKept.heap_alloc (w.alloc a) b).1
  refine ⟨((Chg.refl [] (w.alloc a)).alloc b).keep h1 List.not_mem_nil, ?_, ((Chg.refl [] w).alloc a).alloc b⟩
  have h3 : (w.alloc a).heap.size = w.heap.size + 1 := by simp
  rw [← h3]
  exact h2
/-- A word of a line of a block. -/
theorem T_ls {n m v : Nat} {ys : List Ev} {j : Nat} {x : Ev} {T' : Bs} (ok : (bs0 n m v).Ok n m 0) (hd : doB (trialB (bs0 n m v) (ys.take j)).2 x = some T') : T'.ls = lsOf (trialB (bs0 n m v) (ys.take j)).2 x ∧ T'.ks = ksOf (trialB (bs0 n m v) (ys.take j)).2 x := do_lines hd
theorem splice_whole {C img : List Int} (h : img.length = C.length) : splice C 0 img = img := by
  unfold splice
  rw [List.take_zero, List.nil_append, Nat.zero_add, h, List.drop_length, List.append_nil]
set_option maxHeartbeats 4000000 in
theorem orderends_any (c0 c1 c2 c3 c4 c5 c6 : Int) {A : Option Addr} {N cN : Nat} (xs : List Ev) (W : World) (hs : Sl W 5 A N (cat Ev.enc xs)) (hl : xs.length = N) (hN : N ≤ maxLen) (hcN : N ≤ cN) :
    Calls Try.prog 5 #[.agg #[.int .i64 c0, .int .i64 c1, .int .i64 c2, .int .i64 c3, .int .i64 c4, .int .i64 c5, .int .i64 c6], .slice A N cN] W fun e w' => e = .returned (.bool true) ∧ Chg [] W w' := by
  unfold maxLen at hN
  obtain ⟨n1, n2⟩ := one_new W (.cells #[.int .i64 c0, .int .i64 c1, .int .i64 c2, .int .i64 c3, .int .i64 c4, .int .i64 c5, .int .i64 c6] 23)
  have N2 := Lib.hid n2
  have HS := Lib.hid (hs.chg n2 (by simp))
  have HL := Lib.hid hl
  clear n2 hs hl
  go_enter Try.func5, Try.ntmps5
  try dsimp only [List.append]
  go_upto_region 1 with fail
  generalize W.alloc (.cells #[.int .i64 c0, .int .i64 c1, .int .i64 c2, .int .i64 c3, .int .i64 c4, .int .i64 c5, .int .i64 c6] 23) = w1 at *
  generalize W.heap.size = p at *
  by_cases h300 : 300 < N
  · have t0 : (300 : Int) < (N : Int) := by omega
    go_wp2_with (go_at_call 6; refine (wakes18_any _).mono ?_; rintro r w6 ⟨rfl, c6⟩; have C6 := Lib.hid c6; clear c6)
    go_ret
    exact ⟨rfl, N2.out.trans C6.out⟩
  have hN3 : N ≤ 300 := by omega
  have t0 : ¬ (300 : Int) < (N : Int) := by omega
  go_upto_region 3 with fail
  clear t0 h300 hN
  have op := old n1
  have hE : (w1.alloc (.cells #[] 41)).drew.heap[w1.heap.size]? = some (.cells #[] 41 (0, 0)) := (MapKept.heap_alloc w1 _).1
  have cE : Chg [] w1 (w1.alloc (.cells #[] 41)).drew := ((Chg.refl [] w1).alloc _).drew
  obtain ⟨b2, p2, A2, w2, e2, v2, nn2, k2, _⟩ := clone18 (ty := 25) eltEv18 (c := cN) cE op hE (Nat.le_refl _) (HS.out.chg cE (by simp)) HL.out (by omega) (by unfold maxLen; omega)
  have S2 := Lib.hid (show Sl w2 5 A2 N (cat Ev.enc xs) by have := v2.sl Ev.len; rwa [HL.out] at this)
  have K2 := Lib.hid k2
  clear hE cE v2 nn2 k2
  cases hb : goodB c0 c1 c2 c3 c4 c5 c6 with
  | false =>
    have HB := Lib.hid hb
    clear hb
    go_region_held3 (fun w' => w'.heap[p]? = some (.cells #[.int .i64 c0, .int .i64 c1, .int .i64 c2, .int .i64 c3, .int .i64 c4, .int .i64 c5, .int .i64 c6] 23 (0, 0))) (first | exact n3 | exact n1 | exact K2.out.keep n1 List.not_mem_nil | (rw [heap_drew, heap_alloc, n1]; rfl) | (rw [heap_drew, n1]) | (rw [heap_alloc, n1]; rfl)) (first | (go_at_call 7; refine (check_bad c0 c1 c2 c3 c4 c5 c6 none 0 0 _ _ _ _ (fun w => bnew_bad none 0 0 c0 c1 c2 c3 c4 c5 c6 (.inl HB.out) w)).mono ?_; rintro e w3 ⟨rfl, c⟩; have C3 := Lib.hid ((N2.out.trans K2.out).trans c); have n3 := (K2.out.trans c).keep n1 List.not_mem_nil; clear c))
    all_goals
      go_wp2_with (go_at_call 6; refine (wakes18_any _).mono ?_; rintro r w6 ⟨rfl, c6⟩; have C6 := Lib.hid c6; clear c6)
      go_ret
      exact ⟨rfl, C3.out.trans C6.out⟩
  | true =>
    have hb' := of_decide_eq_true hb
    obtain ⟨a1, a2, a3, a4, a5, a6, _⟩ := hb'
    obtain ⟨m, rfl⟩ : ∃ m : Nat, c0 = m := ⟨c0.toNat, by omega⟩
    obtain ⟨n, rfl⟩ : ∃ n : Nat, c1 = n := ⟨c1.toNat, by omega⟩
    obtain ⟨v, rfl⟩ : ∃ v : Nat, c2 = v := ⟨c2.toNat, by omega⟩
    have OK := Lib.hid (bs0_ok (n := n) (m := m) (v := v) (by omega) (by omega) (by omega) (by omega))
    have HW := Lib.hid (fun (w : World) => new_w m n v c3 c4 c5 c6 hb w)
    clear hb
    obtain ⟨a, ha⟩ : ∃ a : Nat, a = (trialB (bs0 n m v) xs).1 := ⟨_, rfl⟩
    obtain ⟨vd, hvd⟩ : ∃ vd : Int, vd = if a = N then 0 else 16 := ⟨_, rfl⟩
    have haN : a ≤ N := by rw [ha, ← HL.out]; exact trialB_le xs _
    have tv1 : (vd == 1) = false := by rw [hvd]; split <;> rfl
    have ta1 : ¬ (N : Int) < (a : Int) := by omega
    have ta2 : ¬ (a : Int) < 0 := by omega
    have ga0 : (0 : Int) ≤ (a : Int) := by omega
    have hvn : v < n := by omega
    have hn64 : n ≤ 64 := by omega
    have HA := Lib.hid ha
    have HVD := Lib.hid hvd
    have HAN := Lib.hid haN
    clear ha hvd
    go_region_held3 (fun w' => w'.heap[p]? = some (.cells #[.int .i64 m, .int .i64 n, .int .i64 v, .int .i64 c3, .int .i64 c4, .int .i64 c5, .int .i64 c6] 23 (0, 0))) (first | exact n3 | exact n1 | exact K2.out.keep n1 List.not_mem_nil | (rw [heap_drew, heap_alloc, n1]; rfl) | (rw [heap_drew, n1]) | (rw [heap_alloc, n1]; rfl)) (first | (go_at_call 7; refine (check_ok (n := n) (m := m) _ _ _ _ _ _ _ none 0 0 xs (bs0 n m v) OK.out _ S2.out HL.out (by omega) (fun w _ => HW.out w) vd (by rw [HVD.out, HA.out]) a (by rw [HA.out])).mono ?_; rintro e w3 ⟨rfl, c⟩; have C3 := Lib.hid ((N2.out.trans K2.out).trans c); have n3 := (K2.out.trans c).keep n1 List.not_mem_nil; have HS3 := Lib.hid (HS.out.chg (K2.out.trans c) (by simp)); clear c))
    clear n1 S2 K2 e2 op

    have hsl := fun w => slE_to A N cN a (by omega) hcN w
    go_upto_region 6 with fail
    have op := old n3
    have hE : (w3.alloc (.cells #[] 41)).heap[w3.heap.size]? = some (.cells #[] 41 (0, 0)) := (MapKept.heap_alloc w3 _).1
    have cE : Chg [] w3 (w3.alloc (.cells #[] 41)) := (Chg.refl [] w3).alloc _
    have hlk : (xs.take a).length = a := by rw [List.length_take, HL.out]; omega
    obtain ⟨b4, p4, A4, w4, e4, v4, nn4, k4, _⟩ := clone18 (ty := 25) eltEv18 (c := cN) cE op hE (Nat.le_refl _) ((HS3.out.takeE HL.out (k := a) (by omega)).chg cE (by simp)) hlk (by omega) (by unfold maxLen; omega)
    have S4 := Lib.hid (show Sl w4 5 A4 a (cat Ev.enc (xs.take a)) by have := v4.sl Ev.len; rwa [hlk] at this)
    have K4 := Lib.hid k4
    have n4 := k4.keep n3 List.not_mem_nil
    have htk : (trialB (bs0 n m v) (xs.take a)).1 = a := trialB_take xs _ a (by rw [← HA.out]; exact Nat.le_refl _)
    have HTK := Lib.hid htk
    have HLK := Lib.hid hlk
    clear hE cE v4 nn4 k4 hlk htk
    generalize xs.take a = ys at *
    go_upto_region 7 with fail
    clear e4 op hsl n3 HS3
    go_upto_region 8 with (go_at_call 9; refine (ends_ok (n := n) (m := m) _ _ _ _ _ _ _ none 0 0 ys (bs0 n m v) OK.out _ S4.out HLK.out (by omega) (fun w _ => HW.out w) HTK.out).mono ?_; rintro e w5 ⟨g5, p5, r5, rfl, h5, _, hp5, c⟩; have C5 := Lib.hid (C3.out.trans (K4.out.trans c)); have n5 := c.keep n4 List.not_mem_nil; have S5 := Lib.hid (S4.out.chg c (by simp)); clear c S4 n4 C3 K4)
    go_upto_region 9 with (go_at_call 10; refine (keeps_ok (n := n) (m := m) _ _ _ _ _ _ _ none 0 0 ys (bs0 n m v) OK.out _ S5.out HLK.out (by omega) (fun w _ => HW.out w) HTK.out).mono ?_; rintro e w6 ⟨g6, p6, r6, rfl, h6, _, hp6, c⟩; have C6 := Lib.hid (C5.out.trans c); have n6 := c.keep n5 List.not_mem_nil; have h56 := c.keep h5 List.not_mem_nil; have S6 := Lib.hid (S5.out.chg c (by simp)); clear c S5 n5 C5)
    have tnn : ((n : Int) != (n : Int)) = false := by simp
    have hok : (trialB (bs0 n m v) ys).2.Ok n m a := by have := trialB_ok ys OK.out; rwa [HTK.out, Nat.zero_add] at this
    have E5 := Lib.hid (Sl.of_bk (n := n) h56 hok.ls)
    have E6 := Lib.hid (Sl.of_bk (n := n) h6 hok.ks)
    clear hok h5 h56 h6
    go_upto_region 11 with fail
    clear ta1 ta2 tv1
    have hml := fun w => run_make_lines w n hn64
    obtain ⟨z1, z2, z3⟩ := two_new18 w6 (.cells (bk (List.replicate (n * 8) 0) []) 44) (.cells (bk (List.replicate (n * 8) 0) []) 44)
    have y1 : ((w6.alloc (.cells (bk (List.replicate (n * 8) 0) []) 44)).alloc (.cells (bk (List.replicate (n * 8) 0) []) 44)).drew.heap[w6.heap.size]? = some (.cells (bk (List.replicate (n * 8) 0) []) 44 (0, 0)) := z1
    have y2 : ((w6.alloc (.cells (bk (List.replicate (n * 8) 0) []) 44)).alloc (.cells (bk (List.replicate (n * 8) 0) []) 44)).drew.heap[w6.heap.size + 1]? = some (.cells (bk (List.replicate (n * 8) 0) []) 44 (0, 0)) := z2
    have y3 := Lib.hid (show Chg [] w6 ((w6.alloc (.cells (bk (List.replicate (n * 8) 0) []) 44)).alloc (.cells (bk (List.replicate (n * 8) 0) []) 44)).drew from z3.drew)
    have y4 := y3.out.keep n6 List.not_mem_nil
    have yn := Lib.hid (show w6.heap.size ≠ w6.heap.size + 1 from by omega)
    have yg := Lib.hid (Nat.le_refl w6.heap.size)
    have yh := Lib.hid (Nat.le_succ w6.heap.size)
    clear z1 z2 z3
    go_region
    · generalize ((w6.alloc (.cells (bk (List.replicate (n * 8) 0) []) 44)).alloc (.cells (bk (List.replicate (n * 8) 0) []) 44)).drew = w8 at *
      generalize hB2 : w6.heap.size + 1 = b2 at *
      generalize hB1 : w6.heap.size = b1 at *
      have HB1 := Lib.hid hB1
      have HB2 := Lib.hid hB2
      clear hB1 hB2
      clear hml
      have n8 := Lib.hid y4
      have n6h := Lib.hid n6
      clear y4 n6
      go_upto_region 12 with fail
      go_wp2_with fail
      go_loopw [14] (fun i wr => ∃ j : Nat, j ≤ a ∧ i = .int .i64 j ∧ wr.heap[b1]? = some (.cells (bk (trialB (bs0 n m v) (ys.take j)).2.ls []) 44 (0, 0)) ∧ wr.heap[b2]? = some (.cells (bk (trialB (bs0 n m v) (ys.take j)).2.ks []) 44 (0, 0)) ∧ wr.heap[p]? = some (.cells #[.int .i64 m, .int .i64 n, .int .i64 v, .int .i64 c3, .int .i64 c4, .int .i64 c5, .int .i64 c6] 23 (0, 0)) ∧ Chg [] w6 wr) (fun i _ => a - (intOf i).toNat)
      case atStart => exact ⟨0, Nat.zero_le _, rfl, y1, y2, n8.out, y3.out⟩
      case round =>
        clear y1 y2 n8 y3
        obtain ⟨j, hj, rfl, r1, r2, r3, r4⟩ := hrel
        have R4 := Lib.hid r4
        have okj := trialB_ok (ys.take j) OK.out
        have lsl := okj.ls
        have ksl := okj.ks
        have vol : (trialB (bs0 n m v) (ys.take j)).2.vol = v := trialB_vol _ _
        by_cases hlt : j < a
        · obtain ⟨x, hx⟩ : ∃ x, ys[j]? = some x := ⟨ys[j]'(by rw [HLK.out]; exact hlt), List.getElem?_eq_getElem _⟩
          obtain ⟨T', hd, hT⟩ := trialB_next (by rw [HTK.out, HLK.out]) hx
          obtain ⟨hL, hK⟩ := do_lines hd
          obtain ⟨pl, pw⟩ := do_place okj hd
          rw [← hT] at hL hK
          have HL' := Lib.hid hL
          have HK' := Lib.hid hK
          have PL := Lib.hid pl
          have PW := Lib.hid pw
          have VOL := Lib.hid vol
          have JA := Lib.hid hlt
          obtain ⟨bo, oo, rfl⟩ := S6.out.addr (by omega)
          obtain ⟨cs, ty, ff, hb, _, hpa⟩ := (S6.out.chg r4 (by simp)).elem (by omega) hlt (cat_part Ev.len hx)
          obtain ⟨q1, q2⟩ := hpa 0 5 (by omega)
          rw [show ((Ev.enc x).drop 0 |>.take 5).toArray = evc x from rfl, Nat.add_zero] at q2
          rw [Nat.add_zero] at q1
          have g1 : (j : Int) < (a : Int) := by omega
          have g0 : (0 : Int) ≤ (j : Int) := by omega
          have g2 : (a : Int) ≤ 300 := by omega
          clear hd hT hL hK pl pw vol hj okj hpa hx hlt r4
          generalize hSj : (trialB (bs0 n m v) (ys.take j)).2 = Sj at *
          generalize hSn : (trialB (bs0 n m v) (ys.take (j + 1))).2 = Sn at *
          have SJ := Lib.hid hSj
          have SN := Lib.hid hSn
          clear hSj hSn
          go_upto_region 16 with fail
          have ce := (Chg.refl [] wr).alloc (.cells (evc x) 41)
          have m1 := ce.keep r1 List.not_mem_nil
          have m2 := ce.keep r2 List.not_mem_nil
          have m3 := ce.keep r3 List.not_mem_nil
          have m4 : (wr.alloc (.cells (evc x) 41)).heap[wr.heap.size]? = some (.cells (evc x) 41 (0, 0)) := (MapKept.heap_alloc wr _).1
          have CE := Lib.hid (R4.out.trans ce)
          clear hb q1 q2 r1 r2 r3 ce R4
          generalize wr.alloc (.cells (evc x) 41) = wa at *
          generalize wr.heap.size = pe at *
          obtain ⟨kd, co, li, wo, va⟩ := x
          by_cases h3 : kd = 3
          · have t3 : (kd == 3) = true := by simpa using h3
            have h5 : ¬ kd = 5 := by omega
            have h11 : ¬ kd = 11 := by omega
            have hp := PL.out (by simp [h3, namesL])
            have hq := PW.out (by simp [h3, namesW])
            simp only at hp hq
            obtain ⟨l, rfl⟩ : ∃ l : Nat, li = l := ⟨li.toNat, by omega⟩
            obtain ⟨o, rfl⟩ : ∃ o : Nat, wo = o := ⟨wo.toNat, by omega⟩
            have e0 : (0 : Int) ≤ (l : Int) := by omega
            have e1 : ¬ (l : Int) < 0 := by omega
            have e2 : ¬ (n : Int) ≤ (l : Int) := by omega
            have e2' : (l : Int) < (n : Int) := by omega
            have e3 : ¬ (o : Int) < 0 := by omega
            have e3' : (0 : Int) ≤ (o : Int) := by omega
            have e4 : ¬ (8 : Int) ≤ (o : Int) := by omega
            have e4' : (o : Int) < 8 := by omega
            have hls : Sn.ls = Sj.ls.set (l * 8 + o) va := by rw [HL'.out]; simp [lsOf, h3]
            have hks : Sn.ks = Sj.ks := by rw [HK'.out]; simp [ksOf, h3]
            have hlt : l * 8 + o < Sj.ls.length := by rw [lsl]; omega
            have HLS := Lib.hid hls
            have HKS := Lib.hid hks
            have HLT := Lib.hid hlt
            obtain ⟨yo, hyo⟩ : ∃ yo, Sj.ls[l * 8 + o]? = some yo := ⟨_, List.getElem?_eq_getElem hlt⟩
            have hcl : (bk Sj.ls [])[l * 8 + o]? = some (.int .u64 yo) := by unfold bk; rw [List.append_nil, List.getElem?_toArray, List.getElem?_map, hyo]; rfl
            clear hyo
            clear h3 h5 h11 hp hq hls hks
            go_upto_region 20 with fail
            go_region
            all_goals
              have f1 : ((wa.setCell ⟨b1, l * 8 + o, none⟩ (.int .u64 va)).drew).heap[b1]? = some (.cells (bk (Sj.ls.set (l * 8 + o) va) []) 44 (0, 0)) := by rw [heap_drew, heap_setCell, if_pos rfl, m1, rowSet_some, bk_set _ _ _ _ HLT.out]
              have cf : Chg [b1] wa ((wa.setCell ⟨b1, l * 8 + o, none⟩ (.int .u64 va)).drew) := ((Chg.refl [b1] wa).setCell _ _ _ (.inl (by simp))).drew
              have f2 := cf.keep m2 (by simp; have := HB2.out; omega)
              have f3 := cf.keep m3 (by simp; have := lt_heap n6h.out; have := HB1.out; have := HB2.out; omega)
              have F := Lib.hid (CE.out.trans' cf (fun z hz => .inr (by simp only [List.mem_singleton] at hz; have := HB1.out; have := HB2.out; omega)))
              clear cf
              generalize (wa.setCell ⟨b1, l * 8 + o, none⟩ (.int .u64 va)).drew = wf at *
              go_wp2_with fail
              go_roundw
              case measure =>
                show a - ((j : Int) + 1).toNat < a - ((j : Int)).toNat
                have := JA.out
                omega
              case rel => exact ⟨j + 1, JA.out, by go_num, by rw [SN.out, HLS.out]; exact f1, by rw [SN.out, HKS.out]; exact f2, f3, F.out⟩
          have t3 : (kd == 3) = false := by simpa using h3
          by_cases h5 : kd = 5
          · have t5 : (kd == 5) = true := by simpa using h5
            have hp := PL.out (by simp [h5, namesL])
            simp only at hp
            obtain ⟨l, rfl⟩ : ∃ l : Nat, li = l := ⟨li.toNat, by omega⟩
            have e0 : (0 : Int) ≤ (l : Int) := by omega
            have e1 : ¬ (l : Int) < 0 := by omega
            have e2 : ¬ (n : Int) ≤ (l : Int) := by omega
            have e2' : (l : Int) < (n : Int) := by omega
            have hls : Sn.ls = Sj.ls := by rw [HL'.out]; simp [lsOf, h5]
            have hks : Sn.ks = if v ≤ l then lnPut Sj.ks l (ln Sj.ls l) else Sj.ks := by rw [HK'.out]; simp [ksOf, h5, VOL.out]
            have HLS := Lib.hid hls
            have HKS := Lib.hid hks
            by_cases hvl : v ≤ l
            · have e5 : (v : Int) ≤ (l : Int) := by omega
              have ft1 : Fit (l * 8) 8 Sj.ls.length := by unfold Fit; omega
              have ft2 : Fit (l * 8) 8 Sj.ks.length := by unfold Fit; omega
              have hl8 := ln_length _ _ ft1
              have q1 := fun f => rowIn_bk ft1 [] 44 f
              have q2 := fun f => rowPart_bk ft1 [] 44 f
              have q3 := rowHas_bk ft2 [] 44
              have q4 := fun f => rowPut_bk (xs := Sj.ks) (l := ln Sj.ls l) (i := l) (by rw [hl8]; exact ft2) [] 44 f
              have hc8 : (vs (ln Sj.ls l)).size = 8 := by rw [vs_size, hl8]
              have HC8 := Lib.hid hc8
              have HV := Lib.hid hvl
              clear h3 h5 hp hls hks hvl ft1 ft2
              go_upto_region 25 with fail
              go_region
              all_goals
                have f1 : (putRow wa.drew b2 (l * 8) (vs (ln Sj.ls l))).heap[b2]? = some (.cells (bk (lnPut Sj.ks l (ln Sj.ls l)) []) 44 (0, 0)) := by rw [heap_putRow _ _ _ _ _ (by rw [HC8.out, heap_drew, m2]; exact q3), if_pos rfl, heap_drew, m2, q4]
                have cf : Chg [b2] wa (putRow wa.drew b2 (l * 8) (vs (ln Sj.ls l))) := (Chg.refl [b2] wa).drew.putRow _ _ _ (.inl (by simp))
                have f2 := cf.keep m1 (by simp; have := HB2.out; omega)
                have f3 := cf.keep m3 (by simp; have := lt_heap n6h.out; have := HB1.out; have := HB2.out; omega)
                have F := Lib.hid (CE.out.trans' cf (fun z hz => .inr (by simp only [List.mem_singleton] at hz; have := HB1.out; have := HB2.out; omega)))
                clear cf
                generalize putRow wa.drew b2 (l * 8) (vs (ln Sj.ls l)) = wf at *
                go_wp2_with fail
                go_roundw
                case measure =>
                  show a - ((j : Int) + 1).toNat < a - ((j : Int)).toNat
                  have := JA.out
                  omega
                case rel => exact ⟨j + 1, JA.out, by go_num, by rw [SN.out, HLS.out]; exact f2, by rw [SN.out, HKS.out, if_pos HV.out]; exact f1, f3, F.out⟩
            · have e5 : ¬ (v : Int) ≤ (l : Int) := by omega
              have HV := Lib.hid hvl
              clear h3 h5 hp hls hks hvl
              go_wp2_with fail
              go_roundw
              case measure =>
                show a - ((j : Int) + 1).toNat < a - ((j : Int)).toNat
                have := JA.out
                omega
              case rel => exact ⟨j + 1, JA.out, by go_num, by rw [SN.out, HLS.out]; exact m1, by rw [SN.out, HKS.out, if_neg HV.out]; exact m2, m3, CE.out⟩
          have t5 : (kd == 5) = false := by simpa using h5
          by_cases h11 : kd = 11
          · have t11 : (kd == 11) = true := by simpa using h11
            have hls : Sn.ls = Sj.ks := by rw [HL'.out]; simp [lsOf, h11]
            have hks : Sn.ks = Sj.ks := by rw [HK'.out]; simp [ksOf, h11]
            have HLS := Lib.hid hls
            have HKS := Lib.hid hks
            have hcp := fun ty => copy_img wa b1 n n n n (some ⟨b2, 0, none⟩) Sj.ks (Sl.of_bk m2 ksl) (Nat.le_refl _) Sj.ls lsl m1 ty
            have f1 := put_img (n := n) (img := Sj.ks) (by omega) m1
            rw [splice_whole (by omega)] at f1
            have cf : Chg [b1] wa (putRow wa b1 0 (vs Sj.ks)) := (Chg.refl [b1] wa).putRow _ _ _ (.inl (by simp))
            have f2 := cf.keep m2 (by simp; have := HB2.out; omega)
            have f3 := cf.keep m3 (by simp; have := lt_heap n6h.out; have := HB1.out; have := HB2.out; omega)
            have F := Lib.hid (CE.out.trans' cf (fun z hz => .inr (by simp only [List.mem_singleton] at hz; have := HB1.out; have := HB2.out; omega)))
            have F1 := Lib.hid f1
            have F2 := Lib.hid f2
            have F3 := Lib.hid f3
            clear h3 h5 h11 hls hks cf f1 f2 f3
            go_wp2_with fail
            go_roundw
            case measure =>
              show a - ((j : Int) + 1).toNat < a - ((j : Int)).toNat
              have := JA.out
              omega
            case rel => exact ⟨j + 1, JA.out, by go_num, by rw [SN.out, HLS.out]; exact F1.out, by rw [SN.out, HKS.out]; exact F2.out, F3.out, F.out⟩
          · have t11 : (kd == 11) = false := by simpa using h11
            have hls : Sn.ls = Sj.ls := by rw [HL'.out]; simp [lsOf, h3, h11]
            have hks : Sn.ks = Sj.ks := by rw [HK'.out]; simp [ksOf, h5]
            have HLS := Lib.hid hls
            have HKS := Lib.hid hks
            clear h3 h5 h11 hls hks
            go_wp2_with fail
            go_roundw
            case measure =>
              show a - ((j : Int) + 1).toNat < a - ((j : Int)).toNat
              have := JA.out
              omega
            case rel => exact ⟨j + 1, JA.out, by go_num, by rw [SN.out, HLS.out]; exact m1, by rw [SN.out, HKS.out]; exact m2, m3, CE.out⟩
        · obtain rfl : j = a := by omega
          have g1 : ¬ (j : Int) < (j : Int) := by omega
          have hty : ys.take j = ys := List.take_of_length_le (by rw [HLK.out]; exact Nat.le_refl _)
          rw [hty] at r1 r2 lsl ksl
          have D5 := Lib.hid (E5.out.chg r4 (by simp))
          have D6 := Lib.hid (E6.out.chg r4 (by simp))
          have B5 := Lib.hid (Sl.of_bk (n := n) r1 lsl)
          have B6 := Lib.hid (Sl.of_bk (n := n) r2 ksl)
          clear r1 r2 r3 r4 lsl ksl hty okj vol hlt
          go_wp2_with (first | (go_at_call 11; refine (lines_same g5 0 b1 0 n p5 n _ _ D5.out B5.out (by omega)).mono ?_; rintro e w9 ⟨rfl, c⟩; have C9 := Lib.hid (R4.out.trans c); have D6' := Lib.hid (D6.out.chg c (by simp)); have B6' := Lib.hid (B6.out.chg c (by simp)); clear c D5 B5 D6 B6) | (go_at_call 11; refine (lines_same g6 0 b2 0 n p6 n _ _ D6'.out B6'.out (by omega)).mono ?_; rintro e w10 ⟨rfl, c⟩; have C10 := Lib.hid (C9.out.trans c); clear c) | (go_at_call 6; refine (wakes18_any _).mono ?_; rintro r w11 ⟨rfl, c6⟩; have C11 := Lib.hid (C10.out.trans c6); clear c6))
          go_ret
          exact ⟨rfl, C6.out.trans C11.out⟩
    · generalize ((w6.alloc (.cells (bk (List.replicate (n * 8) 0) []) 44)).alloc (.cells (bk (List.replicate (n * 8) 0) []) 44)).drew = w8 at *
      generalize hB2 : w6.heap.size + 1 = b2 at *
      generalize hB1 : w6.heap.size = b1 at *
      have HB1 := Lib.hid hB1
      have HB2 := Lib.hid hB2
      clear hB1 hB2
      clear hml
      have n8 := Lib.hid y4
      have n6h := Lib.hid n6
      clear y4 n6
      go_upto_region 12 with fail
      go_wp2_with fail
      go_loopw [14] (fun i wr => ∃ j : Nat, j ≤ a ∧ i = .int .i64 j ∧ wr.heap[b2]? = some (.cells (bk (trialB (bs0 n m v) (ys.take j)).2.ls []) 44 (0, 0)) ∧ wr.heap[b1]? = some (.cells (bk (trialB (bs0 n m v) (ys.take j)).2.ks []) 44 (0, 0)) ∧ wr.heap[p]? = some (.cells #[.int .i64 m, .int .i64 n, .int .i64 v, .int .i64 c3, .int .i64 c4, .int .i64 c5, .int .i64 c6] 23 (0, 0)) ∧ Chg [] w6 wr) (fun i _ => a - (intOf i).toNat)
      case atStart => exact ⟨0, Nat.zero_le _, rfl, y2, y1, n8.out, y3.out⟩
      case round =>
        clear y1 y2 n8 y3
        obtain ⟨j, hj, rfl, r1, r2, r3, r4⟩ := hrel
        have R4 := Lib.hid r4
        have okj := trialB_ok (ys.take j) OK.out
        have lsl := okj.ls
        have ksl := okj.ks
        have vol : (trialB (bs0 n m v) (ys.take j)).2.vol = v := trialB_vol _ _
        by_cases hlt : j < a
        · obtain ⟨x, hx⟩ : ∃ x, ys[j]? = some x := ⟨ys[j]'(by rw [HLK.out]; exact hlt), List.getElem?_eq_getElem _⟩
          obtain ⟨T', hd, hT⟩ := trialB_next (by rw [HTK.out, HLK.out]) hx
          obtain ⟨hL, hK⟩ := do_lines hd
          obtain ⟨pl, pw⟩ := do_place okj hd
          rw [← hT] at hL hK
          have HL' := Lib.hid hL
          have HK' := Lib.hid hK
          have PL := Lib.hid pl
          have PW := Lib.hid pw
          have VOL := Lib.hid vol
          have JA := Lib.hid hlt
          obtain ⟨bo, oo, rfl⟩ := S6.out.addr (by omega)
          obtain ⟨cs, ty, ff, hb, _, hpa⟩ := (S6.out.chg r4 (by simp)).elem (by omega) hlt (cat_part Ev.len hx)
          obtain ⟨q1, q2⟩ := hpa 0 5 (by omega)
          rw [show ((Ev.enc x).drop 0 |>.take 5).toArray = evc x from rfl, Nat.add_zero] at q2
          rw [Nat.add_zero] at q1
          have g1 : (j : Int) < (a : Int) := by omega
          have g0 : (0 : Int) ≤ (j : Int) := by omega
          have g2 : (a : Int) ≤ 300 := by omega
          clear hd hT hL hK pl pw vol hj okj hpa hx hlt r4
          generalize hSj : (trialB (bs0 n m v) (ys.take j)).2 = Sj at *
          generalize hSn : (trialB (bs0 n m v) (ys.take (j + 1))).2 = Sn at *
          have SJ := Lib.hid hSj
          have SN := Lib.hid hSn
          clear hSj hSn
          go_upto_region 16 with fail
          have ce := (Chg.refl [] wr).alloc (.cells (evc x) 41)
          have m1 := ce.keep r1 List.not_mem_nil
          have m2 := ce.keep r2 List.not_mem_nil
          have m3 := ce.keep r3 List.not_mem_nil
          have m4 : (wr.alloc (.cells (evc x) 41)).heap[wr.heap.size]? = some (.cells (evc x) 41 (0, 0)) := (MapKept.heap_alloc wr _).1
          have CE := Lib.hid (R4.out.trans ce)
          clear hb q1 q2 r1 r2 r3 ce R4
          generalize wr.alloc (.cells (evc x) 41) = wa at *
          generalize wr.heap.size = pe at *
          obtain ⟨kd, co, li, wo, va⟩ := x
          by_cases h3 : kd = 3
          · have t3 : (kd == 3) = true := by simpa using h3
            have h5 : ¬ kd = 5 := by omega
            have h11 : ¬ kd = 11 := by omega
            have hp := PL.out (by simp [h3, namesL])
            have hq := PW.out (by simp [h3, namesW])
            simp only at hp hq
            obtain ⟨l, rfl⟩ : ∃ l : Nat, li = l := ⟨li.toNat, by omega⟩
            obtain ⟨o, rfl⟩ : ∃ o : Nat, wo = o := ⟨wo.toNat, by omega⟩
            have e0 : (0 : Int) ≤ (l : Int) := by omega
            have e1 : ¬ (l : Int) < 0 := by omega
            have e2 : ¬ (n : Int) ≤ (l : Int) := by omega
            have e2' : (l : Int) < (n : Int) := by omega
            have e3 : ¬ (o : Int) < 0 := by omega
            have e3' : (0 : Int) ≤ (o : Int) := by omega
            have e4 : ¬ (8 : Int) ≤ (o : Int) := by omega
            have e4' : (o : Int) < 8 := by omega
            have hls : Sn.ls = Sj.ls.set (l * 8 + o) va := by rw [HL'.out]; simp [lsOf, h3]
            have hks : Sn.ks = Sj.ks := by rw [HK'.out]; simp [ksOf, h3]
            have hlt : l * 8 + o < Sj.ls.length := by rw [lsl]; omega
            have HLS := Lib.hid hls
            have HKS := Lib.hid hks
            have HLT := Lib.hid hlt
            obtain ⟨yo, hyo⟩ : ∃ yo, Sj.ls[l * 8 + o]? = some yo := ⟨_, List.getElem?_eq_getElem hlt⟩
            have hcl : (bk Sj.ls [])[l * 8 + o]? = some (.int .u64 yo) := by unfold bk; rw [List.append_nil, List.getElem?_toArray, List.getElem?_map, hyo]; rfl
            clear hyo
            clear h3 h5 h11 hp hq hls hks
            go_upto_region 20 with fail
            go_region
            all_goals
              have f1 : ((wa.setCell ⟨b2, l * 8 + o, none⟩ (.int .u64 va)).drew).heap[b2]? = some (.cells (bk (Sj.ls.set (l * 8 + o) va) []) 44 (0, 0)) := by rw [heap_drew, heap_setCell, if_pos rfl, m1, rowSet_some, bk_set _ _ _ _ HLT.out]
              have cf : Chg [b2] wa ((wa.setCell ⟨b2, l * 8 + o, none⟩ (.int .u64 va)).drew) := ((Chg.refl [b2] wa).setCell _ _ _ (.inl (by simp))).drew
              have f2 := cf.keep m2 (by simp; have := HB2.out; omega)
              have f3 := cf.keep m3 (by simp; have := lt_heap n6h.out; have := HB1.out; have := HB2.out; omega)
              have F := Lib.hid (CE.out.trans' cf (fun z hz => .inr (by simp only [List.mem_singleton] at hz; have := HB1.out; have := HB2.out; omega)))
              clear cf
              generalize (wa.setCell ⟨b2, l * 8 + o, none⟩ (.int .u64 va)).drew = wf at *
              go_wp2_with fail
              go_roundw
              case measure =>
                show a - ((j : Int) + 1).toNat < a - ((j : Int)).toNat
                have := JA.out
                omega
              case rel => exact ⟨j + 1, JA.out, by go_num, by rw [SN.out, HLS.out]; exact f1, by rw [SN.out, HKS.out]; exact f2, f3, F.out⟩
          have t3 : (kd == 3) = false := by simpa using h3
          by_cases h5 : kd = 5
          · have t5 : (kd == 5) = true := by simpa using h5
            have hp := PL.out (by simp [h5, namesL])
            simp only at hp
            obtain ⟨l, rfl⟩ : ∃ l : Nat, li = l := ⟨li.toNat, by omega⟩
            have e0 : (0 : Int) ≤ (l : Int) := by omega
            have e1 : ¬ (l : Int) < 0 := by omega
            have e2 : ¬ (n : Int) ≤ (l : Int) := by omega
            have e2' : (l : Int) < (n : Int) := by omega
            have hls : Sn.ls = Sj.ls := by rw [HL'.out]; simp [lsOf, h5]
            have hks : Sn.ks = if v ≤ l then lnPut Sj.ks l (ln Sj.ls l) else Sj.ks := by rw [HK'.out]; simp [ksOf, h5, VOL.out]
            have HLS := Lib.hid hls
            have HKS := Lib.hid hks
            by_cases hvl : v ≤ l
            · have e5 : (v : Int) ≤ (l : Int) := by omega
              have ft1 : Fit (l * 8) 8 Sj.ls.length := by unfold Fit; omega
              have ft2 : Fit (l * 8) 8 Sj.ks.length := by unfold Fit; omega
              have hl8 := ln_length _ _ ft1
              have q1 := fun f => rowIn_bk ft1 [] 44 f
              have q2 := fun f => rowPart_bk ft1 [] 44 f
              have q3 := rowHas_bk ft2 [] 44
              have q4 := fun f => rowPut_bk (xs := Sj.ks) (l := ln Sj.ls l) (i := l) (by rw [hl8]; exact ft2) [] 44 f
              have hc8 : (vs (ln Sj.ls l)).size = 8 := by rw [vs_size, hl8]
              have HC8 := Lib.hid hc8
              have HV := Lib.hid hvl
              clear h3 h5 hp hls hks hvl ft1 ft2
              go_upto_region 25 with fail
              go_region
              all_goals
                have f1 : (putRow wa.drew b1 (l * 8) (vs (ln Sj.ls l))).heap[b1]? = some (.cells (bk (lnPut Sj.ks l (ln Sj.ls l)) []) 44 (0, 0)) := by rw [heap_putRow _ _ _ _ _ (by rw [HC8.out, heap_drew, m2]; exact q3), if_pos rfl, heap_drew, m2, q4]
                have cf : Chg [b1] wa (putRow wa.drew b1 (l * 8) (vs (ln Sj.ls l))) := (Chg.refl [b1] wa).drew.putRow _ _ _ (.inl (by simp))
                have f2 := cf.keep m1 (by simp; have := HB2.out; omega)
                have f3 := cf.keep m3 (by simp; have := lt_heap n6h.out; have := HB1.out; have := HB2.out; omega)
                have F := Lib.hid (CE.out.trans' cf (fun z hz => .inr (by simp only [List.mem_singleton] at hz; have := HB1.out; have := HB2.out; omega)))
                clear cf
                generalize putRow wa.drew b1 (l * 8) (vs (ln Sj.ls l)) = wf at *
                go_wp2_with fail
                go_roundw
                case measure =>
                  show a - ((j : Int) + 1).toNat < a - ((j : Int)).toNat
                  have := JA.out
                  omega
                case rel => exact ⟨j + 1, JA.out, by go_num, by rw [SN.out, HLS.out]; exact f2, by rw [SN.out, HKS.out, if_pos HV.out]; exact f1, f3, F.out⟩
            · have e5 : ¬ (v : Int) ≤ (l : Int) := by omega
              have HV := Lib.hid hvl
              clear h3 h5 hp hls hks hvl
              go_wp2_with fail
              go_roundw
              case measure =>
                show a - ((j : Int) + 1).toNat < a - ((j : Int)).toNat
                have := JA.out
                omega
              case rel => exact ⟨j + 1, JA.out, by go_num, by rw [SN.out, HLS.out]; exact m1, by rw [SN.out, HKS.out, if_neg HV.out]; exact m2, m3, CE.out⟩
          have t5 : (kd == 5) = false := by simpa using h5
          by_cases h11 : kd = 11
          · have t11 : (kd == 11) = true := by simpa using h11
            have hls : Sn.ls = Sj.ks := by rw [HL'.out]; simp [lsOf, h11]
            have hks : Sn.ks = Sj.ks := by rw [HK'.out]; simp [ksOf, h11]
            have HLS := Lib.hid hls
            have HKS := Lib.hid hks
            have hcp := fun ty => copy_img wa b2 n n n n (some ⟨b1, 0, none⟩) Sj.ks (Sl.of_bk m2 ksl) (Nat.le_refl _) Sj.ls lsl m1 ty
            have f1 := put_img (n := n) (img := Sj.ks) (by omega) m1
            rw [splice_whole (by omega)] at f1
            have cf : Chg [b2] wa (putRow wa b2 0 (vs Sj.ks)) := (Chg.refl [b2] wa).putRow _ _ _ (.inl (by simp))
            have f2 := cf.keep m2 (by simp; have := HB2.out; omega)
            have f3 := cf.keep m3 (by simp; have := lt_heap n6h.out; have := HB1.out; have := HB2.out; omega)
            have F := Lib.hid (CE.out.trans' cf (fun z hz => .inr (by simp only [List.mem_singleton] at hz; have := HB1.out; have := HB2.out; omega)))
            have F1 := Lib.hid f1
            have F2 := Lib.hid f2
            have F3 := Lib.hid f3
            clear h3 h5 h11 hls hks cf f1 f2 f3
            go_wp2_with fail
            go_roundw
            case measure =>
              show a - ((j : Int) + 1).toNat < a - ((j : Int)).toNat
              have := JA.out
              omega
            case rel => exact ⟨j + 1, JA.out, by go_num, by rw [SN.out, HLS.out]; exact F1.out, by rw [SN.out, HKS.out]; exact F2.out, F3.out, F.out⟩
          · have t11 : (kd == 11) = false := by simpa using h11
            have hls : Sn.ls = Sj.ls := by rw [HL'.out]; simp [lsOf, h3, h11]
            have hks : Sn.ks = Sj.ks := by rw [HK'.out]; simp [ksOf, h5]
            have HLS := Lib.hid hls
            have HKS := Lib.hid hks
            clear h3 h5 h11 hls hks
            go_wp2_with fail
            go_roundw
            case measure =>
              show a - ((j : Int) + 1).toNat < a - ((j : Int)).toNat
              have := JA.out
              omega
            case rel => exact ⟨j + 1, JA.out, by go_num, by rw [SN.out, HLS.out]; exact m1, by rw [SN.out, HKS.out]; exact m2, m3, CE.out⟩
        · obtain rfl : j = a := by omega
          have g1 : ¬ (j : Int) < (j : Int) := by omega
          have hty : ys.take j = ys := List.take_of_length_le (by rw [HLK.out]; exact Nat.le_refl _)
          rw [hty] at r1 r2 lsl ksl
          have D5 := Lib.hid (E5.out.chg r4 (by simp))
          have D6 := Lib.hid (E6.out.chg r4 (by simp))
          have B5 := Lib.hid (Sl.of_bk (n := n) r1 lsl)
          have B6 := Lib.hid (Sl.of_bk (n := n) r2 ksl)
          clear r1 r2 r3 r4 lsl ksl hty okj vol hlt
          go_wp2_with (first | (go_at_call 11; refine (lines_same g5 0 b2 0 n p5 n _ _ D5.out B5.out (by omega)).mono ?_; rintro e w9 ⟨rfl, c⟩; have C9 := Lib.hid (R4.out.trans c); have D6' := Lib.hid (D6.out.chg c (by simp)); have B6' := Lib.hid (B6.out.chg c (by simp)); clear c D5 B5 D6 B6) | (go_at_call 11; refine (lines_same g6 0 b1 0 n p6 n _ _ D6'.out B6'.out (by omega)).mono ?_; rintro e w10 ⟨rfl, c⟩; have C10 := Lib.hid (C9.out.trans c); clear c) | (go_at_call 6; refine (wakes18_any _).mono ?_; rintro r w11 ⟨rfl, c6⟩; have C11 := Lib.hid (C10.out.trans c6); clear c6))
          go_ret
          exact ⟨rfl, C6.out.trans C11.out⟩
end Go.Proofs.Ytnocekhgabgffaa
