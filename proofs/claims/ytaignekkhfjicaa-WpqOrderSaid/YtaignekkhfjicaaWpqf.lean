/- WpqDrains, walked. No condition. -/
import Derived.Test.YtaignekkhfjicaaWpqd
import Derived.Test.YtaignekkhfjicaaArgs
namespace Go.Proofs.Ytaignekkhfjicaa
open Go.RowKit
set_option linter.unusedVariables false
attribute [local go_sem ↓] append_appS copy_copS clear_clrS make_mkS cell_row frozen_row loadLine storeLine loadEnt storeEnt loadREnt storeREnt loadQStep storeQStep heap_drew heap_drewN heap_alloc heap_past heap_setCell heap_putRow vs_get entc_pos
attribute [local go_sem] rowCell_some rowFrozen_some rowHas_some rowIn_some rowPart_full rowPart_lit rowPut_full rowPut_lit rowSet_some size_putRow vs_size vs_one wideLine wideEnt wideREnt wideQStep run_loadS run_storeS run_appS run_copS run_clrS run_mkS loadW_at storeW_at fit_all fit_le one_int one_bool one_pointer one_slice allOne_list putRow_new ne_size1 ne_size2 ne_size3 ne_size4 zero8_length lines_nil line_eq lit8 entc_size entc_one entc_part entc_in entc_made fold_ent fold_entc fold_vs vs_set
attribute [local simp ↓] heap_drew heap_drewN heap_alloc heap_past heap_setCell heap_putRow
attribute [local simp] rowCell_some rowFrozen_some rowHas_some rowIn_some rowPart_full rowPart_lit rowPut_full rowPut_lit rowSet_some size_putRow vs_size fit_all putRow_new ne_size1 ne_size2 ne_size3 ne_size4 zero8_length entc_size


/-- The kinds of a step's cells. -/
def kQStep : List Kd := .int .i64 :: .int .i64 :: kLine
theorem qstep_cells {w : World} {cs : List Value} (h : AreKd w kQStep cs) : ∃ (kd li : Int) (l : List Int), l.length = 8 ∧ cs = .int .i64 kd :: .int .i64 li :: l.map (Value.int .u64) := by
  obtain ⟨v0, c0, rfl, h0, hA⟩ := AreKd.head h
  obtain ⟨v1, c1, rfl, h1, hB⟩ := AreKd.head hA
  rw [IsKd] at h0 h1
  obtain ⟨kd, rfl, _⟩ := h0
  obtain ⟨li, rfl, _⟩ := h1
  obtain ⟨ns, hl, rfl, _⟩ := AreKd.ints (m := 8) hB
  exact ⟨kd, li, ns, hl, rfl⟩
/-- Behind a drain, whatever it answers: what is read is as it was. -/
def DrainedAny (W w : World) (q be g b n v room : Nat) (X : List Int) (e : Ending) (w' : World) : Prop :=
  ∃ (val : Int) (be' : Nat) (es' : List Ent) (xs' : List Int), e = .returned (.int .i64 val) ∧ Sys W w' q be' g b n v room es' xs' ∧ over xs' es' = X ∧ Chg [q, be, g, b] w w' ∧ (be' = be ∨ w.heap.size ≤ be')
theorem drain_any {W w : World} {q be g b n v room : Nat} {es : List Ent} {xs : List Int} (h : Sys W w q be g b n v room es xs) (i : Int) :
    Calls Try.prog 17 #[.pointer (some ⟨q, 0, none⟩), .int .i64 i] w (DrainedAny W w q be g b n v room (over xs es)) := by
  rcases first_or i es with ⟨j, x, h1, h2, h3⟩ | h1
  · subst h2
    exact (sys_drain h x j h1 h3).mono fun e w' ⟨he, be', hs, hc, hb⟩ => ⟨0, be', _, _, he, hs, over_drain xs h.size h.lie h1 (by intro y hy; have := h3 y hy; omega), hc, hb⟩
  · exact (drain_none q be g n room es i w h.2.1 h1).mono fun e w' ⟨he, hc⟩ => ⟨14, be, es, xs, he, h.keep hc, rfl, hc.mono (by simp), .inl rfl⟩

set_option maxRecDepth 100000 in
theorem qdrains_any (A B : Option Addr) (N M c c' : Nat) (xs : List Value) (ds : List Int) (W : World) (hA : Sl W 10 A N xs) (hB : Sl W 1 B M (ds.map (Value.int .u8))) (hN : N ≤ maxLen) (hM : M ≤ maxLen)
    (hk : ∀ i, i < N → AreKd W kQStep ((xs.drop (i * 10)).take 10)) (hd : ∀ x ∈ ds, 0 ≤ x ∧ x ≤ 255) :
    Calls Try.prog 4 #[.slice A N c, .slice B M c'] W fun e w' => e = .returned (.bool true) ∧ Chg [] W w' := by
  unfold maxLen at hN hM
  have HA := Lib.hid hA
  have HB := Lib.hid hB
  have HK := Lib.hid hk
  have HD := Lib.hid hd
  have LB := Lib.hid (show ds.length = M by simpa using hB.1)
  clear hA hB hk hd
  go_enter Try.func4, Try.ntmps4
  go_wp2_with fail
  refine (new_ok 8 2 W (by omega) (by omega) (by omega) (by omega)).mono ?_
  rintro e w1 ⟨rfl, c1, d1, z1⟩
  have D1 := Lib.hid d1
  have C1 := Lib.hid c1
  clear d1 c1 z1
  go_wp2_with fail
  refine (sys_new W 8 2 16 _ _ _ _ C1.out D1.out (by omega) (by omega) (by omega) (by omega)).mono ?_
  rintro e w2 ⟨q, rfl, s2, _, _⟩
  have S2 := Lib.hid s2
  clear s2
  by_cases hn8 : 100 < N
  · have t1 : decide (100 < N) = true := by simpa using hn8
    go_wp2_with (go_at_call 8; refine (wakes_true _).mono ?_; rintro e w2 ⟨rfl, c2⟩)
    go_ret
    exact ⟨rfl, S2.out.1.trans c2⟩
  by_cases hm8 : 100 < M
  · have t1 : decide (100 < N) = false := by simpa using hn8
    have t2 : decide (100 < M) = true := by simpa using hm8
    go_wp2_with (go_at_call 8; refine (wakes_true _).mono ?_; rintro e w2 ⟨rfl, c2⟩)
    go_ret
    exact ⟨rfl, S2.out.1.trans c2⟩
  have t1 : decide (100 < N) = false := by simpa using hn8
  have t2 : decide (100 < M) = false := by simpa using hm8
  go_wp2_with fail
  go_loopw [9] (fun i wr => ∃ (k be : Nat) (es : List Ent), k ≤ N ∧ i = .int .i64 k ∧ Sys W wr q be (W.heap.size + 1) W.heap.size 8 2 16 es (List.replicate (8 * 8) 0)) (fun i _ => N - (intOf i).toNat)
  case atStart => exact ⟨0, q, [], by omega, rfl, S2.out⟩
  case round =>
    obtain ⟨k, be, es, hk, rfl, hs⟩ := hrel
    have S := Lib.hid hs
    clear hs
    have g0 : (0 : Int) ≤ (k : Int) := by omega
    by_cases hlt : k < N
    · have t3 : decide (k < N) = true := by simpa using hlt
      have g1 : (k : Int) < (N : Int) := by omega
      obtain ⟨ba, oa, rfl⟩ := HA.out.addr (by omega)
      obtain ⟨kd, li, l, hl8, hy⟩ := qstep_cells (HK.out k hlt)
      obtain ⟨cs, t, f, hb, hi, hp⟩ := (HA.out.chg S.out.1 (by simp)).elem (by omega) hlt hy
      have HBA := Lib.hid (show ba < W.heap.size by
        obtain ⟨_, _, _, h1, _⟩ := HA.out.elem (by omega) hlt hy
        exact (old h1).lt)
      have hc1 := hi 1 (by omega)
      have hp2 := (hp 2 8 (by omega)).2
      have hr2 := (hp 2 8 (by omega)).1
      have e2 : ((((Value.int .i64 kd :: .int .i64 li :: l.map (Value.int .u64)).drop 2).take 8).toArray) = vs l := by simp [vs, List.take_of_length_le, hl8]
      rw [e2] at hp2
      have e1 : (Value.int .i64 kd :: .int .i64 li :: l.map (Value.int .u64))[1]? = some (.int .i64 li) := rfl
      rw [e1] at hc1
      have HM := Lib.hid (modn_lt li 8 (by omega))
      clear hy hi hp e1 e2
      go_wp2_with fail
      by_cases hfull : es.length < 16
      · go_region_held3 (fun w' => w'.heap[ba]? = some (.cells cs t f)) (first | exact hb | exact c3.keep hb (S.out.argBlock HBA.out))
          (first
            | (go_at_call 31; refine (mod_ok li 8 (by omega) (by omega) _).mono ?_; rintro e w' ⟨rfl, rfl⟩)
            | (go_at_call 13; refine (sys_push (S.out.keep ((Chg.refl [] _).drew)) ⟨modn li 8, l, hl8⟩ HM.out hfull).mono ?_; rintro e w' ⟨rfl, be3, s3, c3, _⟩))
        all_goals
          have S3 := Lib.hid s3
          clear s3 c3
          go_wp2_with fail
          go_roundw
          case rel => exact ⟨k + 1, be3, _, by omega, by go_num, S3.out⟩
          case measure => simp [intOf]; omega
      · go_region_held3 (fun w' => w'.heap[ba]? = some (.cells cs t f)) (first | exact hb | exact c3.keep hb (by simp))
          (first
            | (go_at_call 31; refine (mod_ok li 8 (by omega) (by omega) _).mono ?_; rintro e w' ⟨rfl, rfl⟩)
            | (go_at_call 13; refine (push_full q be _ 8 16 es (modn li 8) l _ (S.out.keep ((Chg.refl [] _).drew)).2.1 HM.out (by omega)).mono ?_; rintro e w' ⟨rfl, c3⟩))
        all_goals
          have S3 := Lib.hid ((S.out.keep ((Chg.refl [] _).drew)).keep c3)
          clear c3
          go_wp2_with fail
          go_roundw
          case rel => exact ⟨k + 1, be, es, by omega, by go_num, S3.out⟩
          case measure => simp [intOf]; omega
    · obtain rfl : k = N := by omega
      have t3 : decide (k < k) = false := by simp
      go_wp2_with fail
      refine (qimage_ok q be _ _ 8 2 16 es _ _ S.out.2.1 S.out.2.2.1).mono ?_
      rintro e w3 ⟨gw, cw, rw1, rfl, h1, h2, h3, c3⟩
      have HXL := Lib.hid S.out.over
      have S3 := Lib.hid (S.out.keep c3)
      have HG := Lib.hid (S.out.new4 h2)
      have H1 := Lib.hid h1
      obtain ⟨X, HX⟩ : ∃ X, Hid (over (List.replicate (8 * 8) 0) es = X) := ⟨_, Lib.hid rfl⟩
      rw [HX.out] at H1 HXL
      clear h1 h2 h3 c3
      go_wp2_with fail
      go_loopw [11] (fun i wz => ∃ (j be2 : Nat) (es2 : List Ent) (xs2 : List Int), j ≤ M ∧ i = .int .i64 j ∧ Sys W wz q be2 (W.heap.size + 1) W.heap.size 8 2 16 es2 xs2 ∧ over xs2 es2 = X ∧ wz.heap[gw]? = some (.cells (bk X rw1) 40 (0, 0)) ∧ gw ∉ [q, be2, W.heap.size + 1, W.heap.size]) (fun i _ => M - (intOf i).toNat)
      case atStart => exact ⟨0, be, es, _, by omega, rfl, S3.out, HX.out, H1.out, HG.out⟩
      case round =>
        obtain ⟨j, be2, es2, xs2, hj, rfl, hs, hx2, hg2, hn2⟩ := hrel
        have R := Lib.hid hs
        have RX := Lib.hid hx2
        have RG := Lib.hid hg2
        have RN := Lib.hid hn2
        clear hs hx2 hg2 hn2
        have j0 : (0 : Int) ≤ (j : Int) := by omega
        by_cases hjm : j < M
        · have t5 : decide (j < M) = true := by simpa using hjm
          have g2 : (j : Int) < (M : Int) := by omega
          obtain ⟨bb, ob, rfl⟩ := HB.out.addr (by omega)
          obtain ⟨cs, t, f, hb, hi⟩ := (HB.out.chg R.out.1 (by simp)).cell hjm
          obtain ⟨x, hxx, x0, x1⟩ : ∃ x, (ds.map (Value.int .u8))[j]? = some (.int .u8 x) ∧ 0 ≤ x ∧ x ≤ 255 := by
            have hkl : j < ds.length := by rw [LB.out]; exact hjm
            have hx := HD.out ds[j] (List.getElem_mem hkl)
            exact ⟨ds[j], by rw [List.getElem?_map, List.getElem?_eq_getElem hkl]; rfl, hx.1, hx.2⟩
          rw [hxx] at hi
          clear hxx
          go_wp2_with fail
          refine (drain_any R.out (x % 8)).mono ?_
          rintro e w4 ⟨val, be4, es4, xs4, rfl, s4, x4, c4, n4⟩
          rw [RX.out] at x4
          have hgl := (old RG.out).lt
          have S4 := Lib.hid s4
          have X4 := Lib.hid x4
          have G4 := Lib.hid (c4.keep RG.out RN.out)
          have N4 := Lib.hid (notNew RN.out hgl n4)
          clear s4 x4 c4 n4 hgl hb
          go_wp2_with fail
          refine (qimage_ok q be4 _ _ 8 2 16 es4 _ _ S4.out.2.1 S4.out.2.2.1).mono ?_
          rintro e w5 ⟨g5, c5, r5, rfl, h1, h2, h3, cc5⟩
          rw [X4.out] at h1
          have S5 := Lib.hid (S4.out.keep cc5)
          have G5 := Lib.hid (cc5.keep G4.out (by simp))
          have I5 := Lib.hid (Sl.of_bk (n := 8) h1 HXL.out)
          clear h1 h2 h3 cc5
          go_wp2_with fail
          refine (lines_same _ _ _ _ 8 _ _ X _ I5.out (Sl.of_bk (n := 8) G5.out HXL.out) (by omega)).mono ?_
          rintro e w6 ⟨rfl, c6⟩
          have S6 := Lib.hid (S5.out.keep c6)
          have G6 := Lib.hid (c6.keep G5.out (by simp))
          clear c6
          go_wp2_with fail
          go_roundw
          case rel => exact ⟨j + 1, be4, es4, xs4, by omega, by go_num, S6.out, X4.out, G6.out, N4.out⟩
          case measure => simp [intOf]; omega
        · obtain rfl : j = M := by omega
          have t5 : decide (j < j) = false := by simp
          go_wp2_with fail
          refine (sys_fail R.out).mono ?_
          rintro e w4 ⟨rfl, be4, s4, c4, n4⟩
          rw [RX.out] at s4
          have S4 := Lib.hid s4
          have G4 := Lib.hid (c4.keep RG.out RN.out)
          clear s4 c4 n4
          go_wp2_with fail
          refine (image_ok _ _ 8 2 _ _ S4.out.2.2.1).mono ?_
          rintro e w5 ⟨gn, cn, rn, rfl, h1, h2, h3, c5⟩
          have S5 := Lib.hid (S4.out.keep c5)
          have G5 := Lib.hid (c5.keep G4.out (by simp))
          have I5 := Lib.hid h1
          clear h1 h2 h3 c5
          go_wp2_with fail
          refine (qlen_ok q _ _ 8 16 _ _ S5.out.2.1).mono ?_
          rintro e w6 ⟨rfl, rfl⟩
          go_wp2_with fail
          go_loopw [13] (fun i wy => ∃ p : Nat, p ≤ 8 ∧ i = .int .i64 p ∧ Chg [] w5 wy) (fun i _ => 8 - (intOf i).toNat)
          case atStart => exact ⟨0, by omega, rfl, Chg.refl _ _⟩
          case round =>
            obtain ⟨p, hp8, rfl, hc⟩ := hrel
            have p0 : (0 : Int) ≤ (p : Int) := by omega
            by_cases hpn : p < 8
            · have fit : Fit (p * 8) 8 X.length := fit_line HXL.out hpn
              have fit2 : Fit (p * 8) 8 (forget X 2).length := by rw [forget_length _ _ (by rw [HXL.out]; omega)]; exact fit
              have q1 := hc.keep G5.out (by simp)
              have q2 := hc.keep I5.out (by simp)
              have o1 := old q1
              have o2 := old q2
              have ri1 := rowIn_bk fit rw1 40 (0, 0)
              have ri2 := rowIn_bk fit2 rn 40 (0, 0)
              have rp1 := rowPart_bk fit rw1 40 (0, 0)
              have rp2 := rowPart_bk fit2 rn 40 (0, 0)
              have l1 := ln_length _ _ fit
              have p1 : (p : Int) < 8 := by omega
              by_cases hj2 : p < 2
              · have t6 : decide (p < 2) = true := by simpa using hj2
                have t7 : decide ((p : Int) < 2) = true := by simp; omega
                rw [ln_forget_lt _ _ _ hj2 (by rw [HXL.out]; omega)] at rp2
                have t8 : decide (2 ≤ p) = false := by simp; omega
                have t9 : decide ((2 : Int) ≤ p) = false := by simp; omega
                clear fit fit2
                go_wp2_with fail
                go_quiet (fail)
                go_wp2_with fail
                go_roundw
                case rel => exact ⟨p + 1, by omega, by go_num, hc.drewN _⟩
                case measure => simp [intOf]; omega
              · have t6 : decide (p < 2) = false := by simpa using hj2
                have t7 : decide ((p : Int) < 2) = false := by simp; omega
                rw [ln_forget_ge _ _ _ (by omega) (by rw [HXL.out]; omega)] at rp2
                have t8 : decide (2 ≤ p) = true := by simp; omega
                have t9 : decide ((2 : Int) ≤ p) = true := by simp; omega
                clear fit fit2
                go_wp2_with fail
                go_quiet (fail)
                go_wp2_with fail
                go_roundw
                case rel => exact ⟨p + 1, by omega, by go_num, hc.drewN _⟩
                case measure => simp [intOf]; omega
            · obtain rfl : p = 8 := by omega
              have S6 := Lib.hid (S5.out.keep hc)
              have I6 := Lib.hid (hc.keep I5.out (by simp))
              clear hc
              go_wp2_with fail
              refine (qimage_ok q be4 _ _ 8 2 16 [] _ _ S6.out.2.1 S6.out.2.2.1).mono ?_
              rintro e w7 ⟨g7, c7, r7, rfl, h1, h2, h3, cc7⟩
              rw [over_nil] at h1
              have HFL := Lib.hid (show (forget X 2).length = 8 * 8 by rw [forget_length _ _ (by rw [HXL.out]; omega), HXL.out])
              have S7 := Lib.hid (S6.out.keep cc7)
              have I7 := Lib.hid (Sl.of_bk (n := 8) h1 HFL.out)
              have J7 := Lib.hid (Sl.of_bk (n := 8) (cc7.keep I6.out (by simp)) HFL.out)
              clear h1 h2 h3 cc7
              go_wp2_with fail
              refine (lines_same _ _ _ _ 8 _ _ (forget X 2) _ I7.out J7.out (by omega)).mono ?_
              rintro e w8 ⟨rfl, c8⟩
              have C8 := Lib.hid (S7.out.1.trans c8)
              clear c8
              go_wp2_with (go_at_call 8; refine (wakes_true _).mono ?_; rintro e w9 ⟨rfl, c9⟩; have C9 := Lib.hid c9; clear c9)
              go_ret
              exact ⟨rfl, C8.out.trans C9.out⟩
end Go.Proofs.Ytaignekkhfjicaa
