/- WpqOrder, walked. No condition. -/
import Derived.Test.YtaignekkhfjicaaWpqd
namespace Go.Proofs.Ytaignekkhfjicaa
open Go.RowKit
set_option linter.unusedVariables false
attribute [local go_sem ↓] append_appS copy_copS clear_clrS make_mkS cell_row frozen_row loadLine storeLine loadEnt storeEnt loadREnt storeREnt loadQStep storeQStep heap_drew heap_drewN heap_alloc heap_past heap_setCell heap_putRow vs_get entc_pos
attribute [local go_sem] rowCell_some rowFrozen_some rowHas_some rowIn_some rowPart_full rowPart_lit rowPut_full rowPut_lit rowSet_some size_putRow vs_size vs_one wideLine wideEnt wideREnt wideQStep run_loadS run_storeS run_appS run_copS run_clrS run_mkS loadW_at storeW_at fit_all fit_le one_int one_bool one_pointer one_slice allOne_list putRow_new ne_size1 ne_size2 ne_size3 ne_size4 zero8_length lines_nil line_eq lit8 entc_size entc_one entc_part entc_in entc_made fold_ent fold_entc fold_vs vs_set
attribute [local simp ↓] heap_drew heap_drewN heap_alloc heap_past heap_setCell heap_putRow
attribute [local simp] rowCell_some rowFrozen_some rowHas_some rowIn_some rowPart_full rowPart_lit rowPut_full rowPut_lit rowSet_some size_putRow vs_size fit_all putRow_new ne_size1 ne_size2 ne_size3 ne_size4 zero8_length entc_size


def ord2 (x : Int) : Ent := ⟨2, [x, 0, 0, 0, 0, 0, 0, 0], rfl⟩
def ord3 (x : Int) : Ent := ⟨3, [x, 0, 0, 0, 0, 0, 0, 0], rfl⟩
/-- The entries of WpqOrder's first loop. -/
def ordEs (vs os : List Int) : Nat → List Ent
  | 0 => []
  | i + 1 => ordEs vs os i ++ [ord2 (vs.getD i 0)] ++ (if i < os.length then [ord3 (os.getD i 0)] else [])
theorem ordEs_len (vs os : List Int) : ∀ i, (ordEs vs os i).length = i + min i os.length
  | 0 => by simp [ordEs]
  | i + 1 => by
    rw [ordEs]
    simp only [List.length_append, ordEs_len vs os i, List.length_singleton]
    split
    · simp; omega
    · simp; omega
/-- The entries of line 2. -/
def two (es : List Ent) : List Ent := es.filter (fun e => e.pos == 2)
theorem two_append (a b : List Ent) : two (a ++ b) = two a ++ two b := by simp [two]
theorem two_ord (vs os : List Int) : ∀ i, i ≤ vs.length → two (ordEs vs os i) = (vs.take i).map ord2
  | 0, _ => by simp [ordEs, two]
  | i + 1, h => by
    rw [ordEs, two_append, two_append, two_ord vs os i (by omega), List.take_succ_eq_append_getElem (by omega : i < vs.length), List.map_append]
    have e1 : two (if i < os.length then [ord3 (os.getD i 0)] else []) = [] := by split <;> simp [two, ord3]
    rw [e1]
    simp [two, ord2, List.getD, (by omega : i < vs.length)]
theorem two_erase (es : List Ent) (j : Nat) (x : Ent) (hx : es[j]? = some x) (h2 : x.pos ≠ 2) : two (es.eraseIdx j) = two es := by
  conv => rhs; rw [cut_at hx]
  rw [erase_at, two_append, two_append]
  congr 1
  simp [two, h2]
theorem two_first : ∀ (es : List Ent) (x : Ent) (t : List Ent), two es = x :: t → ∃ j, es[j]? = some x ∧ (∀ e ∈ es.take j, (e.pos : Int) ≠ ((2 : Nat) : Int)) ∧ two (es.eraseIdx j) = t
  | [], x, t, h => by simp [two] at h
  | e :: es, x, t, h => by
    by_cases h2 : e.pos = 2
    · have : two (e :: es) = e :: two es := by simp [two, h2]
      rw [this] at h
      injection h with h3 h4
      subst h3
      exact ⟨0, rfl, by simp, by simpa using h4⟩
    · have e1 : two (e :: es) = two es := by simp [two, h2]
      rw [e1] at h
      obtain ⟨j, h3, h4, h5⟩ := two_first es x t h
      refine ⟨j + 1, by simpa using h3, ?_, ?_⟩
      · intro y hy
        rw [List.take_succ_cons] at hy
        rcases List.mem_cons.1 hy with rfl | hy
        · omega
        · exact h4 y hy
      · rw [List.eraseIdx_cons_succ]
        have : two (e :: es.eraseIdx j) = two (es.eraseIdx j) := by simp [two, h2]
        rw [this, h5]
theorem two_none (es : List Ent) (h : two es = []) : ∀ e ∈ es, (e.pos : Int) ≠ ((2 : Nat) : Int) := by
  intro e he h2
  have : e ∈ two es := by simp only [two, List.mem_filter]; exact ⟨he, by simp; omega⟩
  rw [h] at this; cases this
/-- Behind a drain of line 3, whatever it answers. -/
def Drained3 (W : World) (q g b n v room : Nat) (es : List Ent) (e : Ending) (w' : World) : Prop :=
  ∃ (val : Int) (be' : Nat) (es' : List Ent) (xs' : List Int), e = .returned (.int .i64 val) ∧ Sys W w' q be' g b n v room es' xs' ∧ two es' = two es
theorem drain3 {W w : World} {q be g b n v room : Nat} {es : List Ent} {xs : List Int} (h : Sys W w q be g b n v room es xs) :
    Calls Try.prog 17 #[.pointer (some ⟨q, 0, none⟩), .int .i64 3] w (Drained3 W q g b n v room es) := by
  rcases first_or 3 es with ⟨j, x, h1, h2, h3⟩ | h1
  · have := (sys_drain h x j h1 (by rw [h2]; exact h3))
    rw [h2] at this
    exact this.mono fun e w' ⟨he, be', hs, _, _⟩ => ⟨0, be', _, _, he, hs, two_erase es j x h1 (by omega)⟩
  · exact (drain_none q be g n room es 3 w h.2.1 h1).mono fun e w' ⟨he, hc⟩ => ⟨14, be, es, xs, he, h.keep hc, rfl⟩

set_option maxRecDepth 100000 in
theorem qorder_any (A B : Option Addr) (N M c c' : Nat) (vals others : List Int) (W : World) (hA : Sl W 1 A N (vals.map (Value.int .u8))) (hB : Sl W 1 B M (others.map (Value.int .u8))) (hN : N ≤ maxLen) (hM : M ≤ maxLen)
    (hv : ∀ x ∈ vals, 0 ≤ x ∧ x ≤ 255) (ho : ∀ x ∈ others, 0 ≤ x ∧ x ≤ 255) :
    Calls Try.prog 6 #[.slice A N c, .slice B M c'] W fun e w' => e = .returned (.bool true) ∧ Chg [] W w' := by
  unfold maxLen at hN hM
  have HA := Lib.hid hA
  have HB := Lib.hid hB
  have HV := Lib.hid hv
  have HO := Lib.hid ho
  have LA := Lib.hid (show vals.length = N by simpa using hA.1)
  have LB := Lib.hid (show others.length = M by simpa using hB.1)
  clear hA hB hv ho
  go_enter Try.func6, Try.ntmps6
  go_wp2_with fail
  refine (new_ok 4 1 W (by omega) (by omega) (by omega) (by omega)).mono ?_
  rintro e w1 ⟨rfl, c1, d1, z1⟩
  have D1 := Lib.hid d1
  have C1 := Lib.hid c1
  clear d1 c1 z1
  go_wp2_with fail
  refine (sys_new W 4 1 16 _ _ _ _ C1.out D1.out (by omega) (by omega) (by omega) (by omega)).mono ?_
  rintro e w2 ⟨q, rfl, s2, _, _⟩
  have S2 := Lib.hid s2
  clear s2
  by_cases hn8 : 8 < N
  · have t1 : decide (8 < N) = true := by simpa using hn8
    go_wp2_with (go_at_call 8; refine (wakes_true _).mono ?_; rintro e w2 ⟨rfl, c2⟩)
    go_ret
    exact ⟨rfl, S2.out.1.trans c2⟩
  by_cases hm8 : 8 < M
  · have t1 : decide (8 < N) = false := by simpa using hn8
    have t2 : decide (8 < M) = true := by simpa using hm8
    go_wp2_with (go_at_call 8; refine (wakes_true _).mono ?_; rintro e w2 ⟨rfl, c2⟩)
    go_ret
    exact ⟨rfl, S2.out.1.trans c2⟩
  have t1 : decide (8 < N) = false := by simpa using hn8
  have t2 : decide (8 < M) = false := by simpa using hm8
  go_wp2_with fail
  go_loopw [9] (fun i wr => ∃ (k be : Nat), k ≤ N ∧ i = .int .i64 k ∧ Sys W wr q be (W.heap.size + 1) W.heap.size 4 1 16 (ordEs vals others k) (List.replicate (4 * 8) 0)) (fun i _ => N - (intOf i).toNat)
  case atStart => exact ⟨0, q, by omega, rfl, S2.out⟩
  case round =>
    obtain ⟨k, be, hk, rfl, hs⟩ := hrel
    have S := Lib.hid hs
    clear hs
    have g0 : (0 : Int) ≤ (k : Int) := by omega
    by_cases hlt : k < N
    · have t3 : decide (k < N) = true := by simpa using hlt
      have g1 : (k : Int) < (N : Int) := by omega
      obtain ⟨ba, oa, rfl⟩ := HA.out.addr (by omega)
      obtain ⟨cs, t, f, hb, hi⟩ := (HA.out.chg S.out.1 (by simp)).cell hlt
      have hkl : k < vals.length := by rw [LA.out]; exact hlt
      rw [List.getElem?_map, List.getElem?_eq_getElem hkl] at hi
      have hx := HV.out vals[k] (List.getElem_mem hkl)
      have HX := Lib.hid (show vals[k] = vals.getD k 0 by simp [List.getD, hkl])
      generalize vals[k] = x at hi hx HX
      obtain ⟨x0, x1⟩ := hx
      have HL := Lib.hid (ordEs_len vals others k)
      clear hkl
      go_wp2_with fail
      refine (sys_push S.out (ord2 x) (by show 2 < 4; omega) (by rw [HL.out]; omega)).mono ?_
      rintro e w3 ⟨rfl, be3, s3, _, _⟩
      have S3 := Lib.hid s3
      clear s3 hb
      by_cases hm : k < M
      · have t4 : decide (k < M) = true := by simpa using hm
        have g2 : (k : Int) < (M : Int) := by omega
        obtain ⟨bb, ob, rfl⟩ := HB.out.addr (by omega)
        obtain ⟨cs', t', f', hb', hi'⟩ := (HB.out.chg S3.out.1 (by simp)).cell hm
        have hkl : k < others.length := by rw [LB.out]; exact hm
        rw [List.getElem?_map, List.getElem?_eq_getElem hkl] at hi'
        have hy := HO.out others[k] (List.getElem_mem hkl)
        have HY := Lib.hid (show others[k] = others.getD k 0 by simp [List.getD, hkl])
        generalize others[k] = y at hi' hy HY
        obtain ⟨y0, y1⟩ := hy
        have HK := Lib.hid hkl
        clear hkl
        go_wp2_with fail
        refine (sys_push S3.out (ord3 y) (by show 3 < 4; omega) (by rw [List.length_append, HL.out]; simp; omega)).mono ?_
        rintro e w4 ⟨rfl, be4, s4, _, _⟩
        have e1 : ordEs vals others k ++ [ord2 x] ++ [ord3 y] = ordEs vals others (k + 1) := by rw [ordEs, if_pos HK.out, HX.out, HY.out]
        rw [e1] at s4
        have S4 := Lib.hid s4
        clear s4 e1
        go_wp2_with fail
        go_roundw
        case rel => exact ⟨k + 1, be4, by omega, by go_num, S4.out⟩
        case measure => simp [intOf]; omega
      · have t4 : decide (k < M) = false := by simpa using hm
        have e1 : ordEs vals others k ++ [ord2 x] = ordEs vals others (k + 1) := by rw [ordEs, if_neg (by rw [LB.out]; exact hm), HX.out, List.append_nil]
        have S4 := Lib.hid (show Sys W w3 q be3 (W.heap.size + 1) W.heap.size 4 1 16 (ordEs vals others (k + 1)) (List.replicate (4 * 8) 0) by rw [← e1]; exact S3.out)
        clear e1
        go_wp2_with fail
        go_roundw
        case rel => exact ⟨k + 1, be3, by omega, by go_num, S4.out⟩
        case measure => simp [intOf]; omega
    · obtain rfl : k = N := by omega
      have t3 : decide (k < k) = false := by simp
      go_wp2_with fail
      refine (qlen_ok q _ _ 4 16 _ _ S.out.2.1).mono ?_
      rintro e w3 ⟨rfl, rfl⟩
      rw [ordEs_len vals others k, LB.out]
      have T0 := Lib.hid (two_ord vals others k (by rw [LA.out]; exact Nat.le_refl _))
      go_wp2_with fail
      go_loopw [11] (fun i wz => ∃ (j be : Nat) (es : List Ent) (xs : List Int), j ≤ k ∧ i = .int .i64 j ∧ Sys W wz q be (W.heap.size + 1) W.heap.size 4 1 16 es xs ∧ two es = (vals.drop j).map ord2) (fun i _ => k - (intOf i).toNat)
      case atStart => exact ⟨0, be, _, _, by omega, rfl, S.out, by rw [T0.out, List.drop_zero, List.take_of_length_le (by rw [LA.out]; exact Nat.le_refl _)]⟩
      case round =>
        obtain ⟨j, be, es, xs, hj, rfl, hs, ht⟩ := hrel
        have R := Lib.hid hs
        have HT := Lib.hid ht
        clear hs ht
        have j0 : (0 : Int) ≤ (j : Int) := by omega
        by_cases hjk : j < k
        · have t5 : decide (j < k) = true := by simpa using hjk
          have g1 : (j : Int) < (k : Int) := by omega
          obtain ⟨ba, oa, rfl⟩ := HA.out.addr (by omega)
          obtain ⟨x, HXX, x0, x1, HTT⟩ : ∃ x, Hid ((vals.map (Value.int .u8))[j]? = some (.int .u8 x)) ∧ 0 ≤ x ∧ x ≤ 255 ∧ Hid (two es = ord2 x :: (vals.drop (j + 1)).map ord2) := by
            have hkl : j < vals.length := by rw [LA.out]; exact hjk
            have hx := HV.out vals[j] (List.getElem_mem hkl)
            exact ⟨vals[j], Lib.hid (by rw [List.getElem?_map, List.getElem?_eq_getElem hkl]; rfl), hx.1, hx.2, Lib.hid (by rw [HT.out, List.drop_eq_getElem_cons hkl, List.map_cons])⟩
          rcases Nat.mod_two_eq_zero_or_one j with h2 | h2
          · have t6 : ((j : Int) % 2 == 1) = false := by simp; omega
            have t7 : (j % 2 == 1) = false := by simp [h2]
            obtain ⟨es1, xs1, S1, HT1⟩ : ∃ es1 xs1, Hid (Sys W wr q be (W.heap.size + 1) W.heap.size 4 1 16 es1 xs1) ∧ Hid (two es1 = ord2 x :: (vals.drop (j + 1)).map ord2) := ⟨es, xs, R, HTT⟩
            clear h2
            go_wp2_with fail
            refine (qlen_ok q _ _ 4 16 _ _ S1.out.2.1).mono ?_
            rintro e w4 ⟨rfl, rfl⟩
            obtain ⟨m, h1, h2, h3⟩ := two_first es1 _ _ HT1.out
            obtain ⟨n1, hn1⟩ : ∃ n1, es1.length = n1 + 1 := ⟨es1.length - 1, by have := (List.getElem?_eq_some_iff.1 h1).1; omega⟩
            have HE := Lib.hid (show (es1.eraseIdx m).length = n1 by rw [List.length_eraseIdx, if_pos (List.getElem?_eq_some_iff.1 h1).1, hn1]; omega)
            have H1 := Lib.hid h1
            have H2 := Lib.hid h2
            have H3 := Lib.hid h3
            have N16 := Lib.hid (show n1 ≤ 16 by have := S1.out.len; omega)
            rw [hn1]
            have nn : (n1 : Int) ≤ 16 := by have := N16.out; omega
            clear h1 h2 h3 hn1
            go_wp2_with fail
            refine (sys_drain S1.out (ord2 x) m H1.out H2.out).mono ?_
            rintro e w5 ⟨rfl, be5, s5, _, _⟩
            have S5 := Lib.hid s5
            clear s5
            go_wp2_with fail
            refine (qlen_ok q _ _ 4 16 _ _ S5.out.2.1).mono ?_
            rintro e w6 ⟨rfl, rfl⟩
            rw [HE.out]
            go_wp2_with fail
            refine (sys_dread S5.out 2 (by omega)).mono ?_
            rintro e w7 ⟨rfl, be7, s7, c7, _⟩
            have e7 : ln (lnPut xs1 (ord2 x).pos (ord2 x).l) 2 = [x, 0, 0, 0, 0, 0, 0, 0] := ln_put_same xs1 [x, 0, 0, 0, 0, 0, 0, 0] 2 (fit_line S1.out.size (by omega)) rfl
            rw [e7]
            have S7 := Lib.hid (s7.keep ((Chg.refl [] w7).alloc (.cells (vs [x, 0, 0, 0, 0, 0, 0, 0]) 40)))
            obtain ⟨cs, t, f, hb, hi⟩ := (HA.out.chg s7.1 (by simp)).cell hjk
            rw [HXX.out] at hi
            have ob := old hb
            clear s7 c7 e7
            go_wp2_with fail
            go_quiet (fail)
            go_wp2_with fail
            go_roundw
            case rel => exact ⟨j + 1, be7, _, _, by omega, by go_num, S7.out.keep ((Chg.refl [] _).drewN _), H3.out⟩
            case measure => simp [intOf]; omega
          · have t6 : ((j : Int) % 2 == 1) = true := by simp; omega
            have t7 : (j % 2 == 1) = true := by simp [h2]
            clear h2
            go_wp2_with fail
            refine (drain3 R.out).mono ?_
            rintro e w3 ⟨val, be1, es1, xs1, rfl, s3, ht3⟩
            have S1 := Lib.hid s3
            have HT1 := Lib.hid (ht3.trans HTT.out)
            clear s3 ht3
            go_wp2_with fail
            refine (qlen_ok q _ _ 4 16 _ _ S1.out.2.1).mono ?_
            rintro e w4 ⟨rfl, rfl⟩
            obtain ⟨m, h1, h2, h3⟩ := two_first es1 _ _ HT1.out
            obtain ⟨n1, hn1⟩ : ∃ n1, es1.length = n1 + 1 := ⟨es1.length - 1, by have := (List.getElem?_eq_some_iff.1 h1).1; omega⟩
            have HE := Lib.hid (show (es1.eraseIdx m).length = n1 by rw [List.length_eraseIdx, if_pos (List.getElem?_eq_some_iff.1 h1).1, hn1]; omega)
            have H1 := Lib.hid h1
            have H2 := Lib.hid h2
            have H3 := Lib.hid h3
            have N16 := Lib.hid (show n1 ≤ 16 by have := S1.out.len; omega)
            rw [hn1]
            have nn : (n1 : Int) ≤ 16 := by have := N16.out; omega
            clear h1 h2 h3 hn1
            go_wp2_with fail
            refine (sys_drain S1.out (ord2 x) m H1.out H2.out).mono ?_
            rintro e w5 ⟨rfl, be5, s5, _, _⟩
            have S5 := Lib.hid s5
            clear s5
            go_wp2_with fail
            refine (qlen_ok q _ _ 4 16 _ _ S5.out.2.1).mono ?_
            rintro e w6 ⟨rfl, rfl⟩
            rw [HE.out]
            go_wp2_with fail
            refine (sys_dread S5.out 2 (by omega)).mono ?_
            rintro e w7 ⟨rfl, be7, s7, c7, _⟩
            have e7 : ln (lnPut xs1 (ord2 x).pos (ord2 x).l) 2 = [x, 0, 0, 0, 0, 0, 0, 0] := ln_put_same xs1 [x, 0, 0, 0, 0, 0, 0, 0] 2 (fit_line S1.out.size (by omega)) rfl
            rw [e7]
            have S7 := Lib.hid (s7.keep ((Chg.refl [] w7).alloc (.cells (vs [x, 0, 0, 0, 0, 0, 0, 0]) 40)))
            obtain ⟨cs, t, f, hb, hi⟩ := (HA.out.chg s7.1 (by simp)).cell hjk
            rw [HXX.out] at hi
            have ob := old hb
            clear s7 c7 e7
            go_wp2_with fail
            go_quiet (fail)
            go_wp2_with fail
            go_roundw
            case rel => exact ⟨j + 1, be7, _, _, by omega, by go_num, S7.out.keep ((Chg.refl [] _).drewN _), H3.out⟩
            case measure => simp [intOf]; omega
        · obtain rfl : j = k := by omega
          have t5 : decide (j < j) = false := by simp
          have T1 := Lib.hid (two_none es (by rw [HT.out, List.drop_of_length_le (by rw [LA.out]; exact Nat.le_refl _), List.map_nil]))
          go_wp2_with fail
          all_goals
            refine (drain_none q be _ 4 16 es 2 _ R.out.2.1 T1.out).mono ?_
            rintro e w4 ⟨rfl, c4⟩
            have C4 := Lib.hid (R.out.1.trans c4)
            clear c4
            go_wp2_with (go_at_call 8; refine (wakes_true _).mono ?_; rintro e w5 ⟨rfl, c5⟩; have C5 := Lib.hid c5; clear c5)
            go_ret
            exact ⟨rfl, C4.out.trans C5.out⟩
end Go.Proofs.Ytaignekkhfjicaa
