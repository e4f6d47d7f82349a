/- SbufPlays: walked. No condition. -/
import Derived.Test.YtibnehmgeccedaaSbw
namespace Go.Proofs.Ytibnehmgeccedaa
open Go.RowKit
set_option linter.unusedVariables false
set_option maxHeartbeats 1000000

attribute [local go_sem ↓] append_appS copy_copS clear_clrS make_mkS cell_row frozen_row loadSe storeSe loadBuf storeBuf heap_drew heap_drewN heap_alloc heap_past heap_setCell heap_putRow sec_kd sec_li sec_wo sec_va sec_sn bfc_room bfc_first bfc_count
attribute [local go_sem] rowCell_some rowFrozen_some rowHas_some rowIn_some rowPart_full rowPart_lit rowPut_full rowPut_lit rowSet_some size_putRow wideSe wideBuf run_loadS run_storeS run_appS run_copS run_clrS run_mkS loadW_at storeW_at fit_all fit_le fit_pl one_int one_bool one_pointer one_slice allOne_list putRow_new ne_size1 ne_size2 ne_size3 ne_size4 sec_size sec_one sec_lit sec_z sec_ne sec_set0 sec_set1 sec_set2 sec_set3 sec_set4 seZ_kd seZ_li seZ_wo seZ_va seZ_sn fold_sec bfc_size bfc_one bfc_setFirst bfc_setCount bfc_in bfc_has bfc_part bfc_put bfc_sent
attribute [local simp ↓] heap_drew heap_drewN heap_alloc heap_past heap_setCell heap_putRow
attribute [local simp] rowCell_some rowFrozen_some rowHas_some rowIn_some rowPart_full rowPart_lit rowPut_full rowPut_lit rowSet_some size_putRow fit_all fit_pl putRow_new ne_size1 ne_size2 ne_size3 ne_size4 sec_size bfc_size bfc_setFirst bfc_setCount bfc_has bfc_put bfc_sent
attribute [local go_sem ↓] zbuf
attribute [local go_sem] bfc_setRoom bfc_ne
attribute [local go_sem ↓] loadRSe storeRSe loadFnd storeFnd loadStp storeStp
attribute [local go_sem] wideRSe wideFnd wideStp
attribute [local go_sem ↓] se_same rse_same
/-! ### A step's cells -/
def stc (kd : Int) (x : Se) : Array Value := (.int .i64 kd :: Se.enc x).toArray
theorem stc_size (kd : Int) (x : Se) : (stc kd x).size = 6 := by simp [stc, Se.enc]
theorem stc_one (kd : Int) (x : Se) : allOne (stc kd x) := allOne_list _ (by simp [Se.enc, Value.oneCell'])
theorem stc_kd (kd : Int) (x : Se) : (stc kd x)[0]? = some (.int .i64 kd) := by simp [stc]
theorem stc_li (kd : Int) (x : Se) : (stc kd x)[2]? = some (.int .i64 x.li) := by simp [stc, Se.enc]
theorem stc_wo (kd : Int) (x : Se) : (stc kd x)[3]? = some (.int .i64 x.wo) := by simp [stc, Se.enc]
theorem stc_x (kd : Int) (x : Se) (t : TypeId) (f : Nat × Nat) : rowPart (some (.cells (stc kd x) t f)) 1 5 = sec x := by
  rw [rowPart_some]; simp [stc, sec, Se.enc]
theorem stc_in (kd : Int) (x : Se) (t : TypeId) (f : Nat × Nat) : rowIn (some (.cells (stc kd x) t f)) 1 5 = true := by
  rw [rowIn_some, stc_size]; exact decide_eq_true (show 1 + 5 ≤ 6 by omega)
def kStp12 : List Kd := [.int .i64, .int .i64, .int .i64, .int .i64, .int .u64, .bool]
theorem stp_cells {w : World} {cs : List Value} (h : AreKd w kStp12 cs) : ∃ (kd : Int) (x : Se), cs = .int .i64 kd :: Se.enc x := by
  obtain ⟨v0, c0, rfl, h0, hA⟩ := AreKd.head h
  obtain ⟨v1, c1, rfl, h1, hB⟩ := AreKd.head hA
  obtain ⟨v2, c2, rfl, h2, hC⟩ := AreKd.head hB
  obtain ⟨v3, c3, rfl, h3, hD⟩ := AreKd.head hC
  obtain ⟨v4, c4, rfl, h4, hE⟩ := AreKd.head hD
  obtain ⟨v5, c5, rfl, h5, hF⟩ := AreKd.head hE
  obtain rfl : c5 = [] := List.eq_nil_of_length_eq_zero (by simpa using hF.1)
  simp only [IsKd] at h0 h1 h2 h3 h4 h5
  obtain ⟨kd, rfl, _⟩ := h0
  obtain ⟨a, rfl, _⟩ := h1
  obtain ⟨b, rfl, _⟩ := h2
  obtain ⟨c, rfl, _⟩ := h3
  obtain ⟨d, rfl, _⟩ := h4
  obtain ⟨e, rfl⟩ := h5
  exact ⟨kd, ⟨a, b, c, d, e⟩, rfl⟩
theorem stp_row {w : World} {o b n : Nat} {xs : List Value} (hA : Sl w 6 (some ⟨b, o, none⟩) n xs) {i : Nat} (hi : i < n) (hk : AreKd w kStp12 ((xs.drop (i * 6)).take 6)) :
    ∃ (kd : Int) (x : Se) (c : Array Value) (t : TypeId) (f : Nat × Nat), w.heap[b]? = some (.cells c t f) ∧ rowIn (some (.cells c t f)) (o + i * 6) 6 = true ∧ rowPart (some (.cells c t f)) (o + i * 6) 6 = stc kd x := by
  obtain ⟨kd, x, hy⟩ := stp_cells hk
  obtain ⟨cs, t, f, hb, _, hp⟩ := hA.elem (by omega) hi hy
  have h0 := hp 0 6 (by omega)
  rw [Nat.add_zero] at h0
  refine ⟨kd, x, cs, t, f, hb, h0.1, ?_⟩
  rw [h0.2]
  simp [stc, Se.enc]
attribute [local go_sem ↓] stc_kd stc_li stc_wo
attribute [local go_sem] stc_size stc_one stc_x stc_in
attribute [local simp] stc_size
set_option maxRecDepth 100000 in
set_option maxHeartbeats 16000000 in
theorem bplays_any (room : Int) (A : Option Addr) (N cN : Nat) (xs : List Value) (W : World) (hA : Sl W 6 A N xs) (hN : N ≤ maxLen) (hk : ∀ i, i < N → AreKd W kStp12 ((xs.drop (i * 6)).take 6)) :
    Calls Try.prog 3 #[.int .i64 room, .slice A N cN] W fun e w' => e = .returned (.bool true) ∧ Chg [] W w' := by
  unfold maxLen at hN
  have HA := Lib.hid hA
  have HK := Lib.hid hk
  clear hA hk
  by_cases h200 : 200 < N
  · have t0 : (200 : Int) < (N : Int) := by omega
    go_enter Try.func3, Try.ntmps3
    try dsimp only [List.append]
    go_wp2_with (go_at_call 7; refine (bwakes _).mono ?_; rintro e w5 ⟨rfl, c5⟩)
    go_ret
    exact ⟨rfl, c5⟩
  have hN' : N ≤ 200 := by omega
  have gN : (N : Int) ≤ 200 := by omega
  clear h200 hN
  cases hgood : within12 room 1 16
  · go_enter Try.func3, Try.ntmps3
    try dsimp only [List.append]
    go_wp2_with fail
    refine (snew_bad room W hgood).mono ?_
    rintro e w1 ⟨rfl, rfl⟩
    go_wp2_with fail
    refine (rbnew_bad room W hgood).mono ?_
    rintro e w1 ⟨rfl, rfl⟩
    go_wp2_with fail
    go_loop [9] (fun i => i = .int .i64 0) (fun _ => 0)
    case atStart => rfl
    case round =>
      subst hrel
      rcases Nat.eq_zero_or_pos N with hz | hz
      · have t1 : decide (0 < N) = false := by simp; omega
        go_wp2_with (go_at_call 7; refine (bwakes _).mono ?_; rintro e w5 ⟨rfl, c5⟩; have C5 := Lib.hid c5; clear c5)
        go_ret
        exact ⟨rfl, C5.out⟩
      · have t1 : decide (0 < N) = true := by simpa using hz
        go_wp2_with (go_at_call 7; refine (bwakes _).mono ?_; rintro e w5 ⟨rfl, c5⟩; have C5 := Lib.hid c5; clear c5)
        go_ret
        exact ⟨rfl, C5.out⟩
  obtain ⟨R, rfl, hR1, hR16⟩ : ∃ R : Nat, room = R ∧ 1 ≤ R ∧ R ≤ 16 := by
    simp [within12] at hgood
    exact ⟨room.toNat, by omega, by omega, by omega⟩
  clear hgood
  go_enter Try.func3, Try.ntmps3
  try dsimp only [List.append]
  go_wp2_with fail
  refine (snew_buf R W hR1 hR16).mono ?_
  rintro e w1 ⟨q, rfl, hq, c1, b1⟩
  have S1 := Lib.hid (And.intro hq (And.intro c1 b1))
  clear hq c1 b1
  go_wp2_with fail
  refine (rbnew_ok R w1 hR1 hR16).mono ?_
  rintro e w2 ⟨p, rfl, hp, c2, b2⟩
  have HB := Lib.hid (show Two W w2 q p p R [] [] by
    have h1 := S1.out.2.2.oldq.lt
    have h2 := S1.out.2.1.size
    exact ⟨S1.out.2.1.trans c2, S1.out.2.2.keep c2 (by simp), b2, by omega, by omega, S1.out.1, by omega, by omega⟩)
  clear S1 c2 b2 hp hR1 hR16
  go_wp2_with fail
  go_loopw [9] (fun i wr => ∃ (k bp : Nat) (es : List Se), k ≤ N ∧ i = .int .i64 k ∧ Two W wr q p bp R es es) (fun i _ => N - (intOf i).toNat)
  case atStart => exact ⟨0, p, [], by omega, rfl, HB.out⟩
  case round =>
    obtain ⟨k, bp, es, hkN, rfl, hboth⟩ := hrel
    have B := Lib.hid hboth
    clear hboth HB
    have g0 : (0 : Int) ≤ (k : Int) := by omega
    by_cases hlt : k < N
    · have t1 : decide (k < N) = true := by simpa using hlt
      have g1 : (k : Int) < (N : Int) := by omega
      obtain ⟨ba, oa, rfl⟩ := HA.out.addr (by omega)
      obtain ⟨kd, x, cs, t, f, hb, hi, hpp⟩ := stp_row HA.out hlt (HK.out k hlt)
      have hbr := B.out.1.keep hb (by simp)
      have obr := old hbr
      have B1 := Lib.hid (B.out.keep ((Chg.refl [] wr).alloc (.cells (stc kd x) 35)))
      have hx1 : (wr.alloc (.cells (stc kd x) 35)).heap[wr.heap.size]? = some (.cells (stc kd x) 35 (0, 0)) := by simp
      have NX := Lib.hid (B.out.newq (Nat.le_refl _))
      have NY := Lib.hid (B.out.newp (Nat.le_refl _))
      have HLT := Lib.hid hlt
      clear hb hlt hkN B
      go_upto_block 2 with (fail)
      generalize wr.alloc (.cells (stc kd x) 35) = w3 at hx1 B1 ⊢
      generalize wr.heap.size = y at hx1 NX NY ⊢
      clear hbr obr hi hpp
      go_cut [11, 12, 13, 14, 15] from 56 to 181 (fun s11 s12 s13 s14 s15 wx => ∃ (bp9 : Nat) (es9 : List Se), Two W wx q p bp9 R es9 es9)
      case first =>
        by_cases k0 : kd = 0
        · have tk : (kd == 0) = true := by simp [k0]
          clear k0
          go_wp2_with fail
          go_region_held3 (fun w' => w'.heap[y]? = some (.cells (stc kd x) 35 (0, 0))) (first | exact hx1 | exact c4.keep hx1 NX.out | exact c5.keep (c4.keep hx1 NX.out) (by simp) | exact c6.keep (c5.keep (c4.keep hx1 NX.out) (by simp)) NY.out)
            (first
              | (go_at_call 10; refine (spush_ok x (B1.out.keep ((Chg.refl [] w3).drew)).2.1).mono ?_; rintro e w4 ⟨rfl, c4, b4⟩)
              | (go_at_call 12; refine (own12 x _).mono ?_; rintro e w5 ⟨rfl, c5⟩)
              | (go_at_call 11; refine (rbpush_ok x (((B1.out.keep ((Chg.refl [] w3).drew)).one c4 b4).keep c5).2.2.1).mono ?_; rintro e w6 ⟨rfl, bp6, n6, c6, b6⟩))
          all_goals
            have B9 := Lib.hid ((((B1.out.keep ((Chg.refl [] w3).drew)).one c4 b4).keep c5).other c6 b6 n6)
            have tv : (sbV R es x != sbV R es x) = false := by simp
            clear c4 b4 c5 c6 b6 n6 hx1
            go_wp2_with fail
            go_meet
            case rel => exact ⟨_, _, B9.out⟩
        have tk0 : (kd == 0) = false := by simpa using k0
        by_cases k1 : kd = 1
        · have tk : (kd == 1) = true := by simp [k1]
          clear k1 k0
          go_wp2_with fail
          have c4 := (Chg.refl [] w3).alloc (.cells (sec seZ) 33)
          have hx4 := c4.keep hx1 (by simp)
          have hz4 : (w3.alloc (.cells (sec seZ) 33)).heap[w3.heap.size]? = some (.cells (sec seZ) 33 (0, 0)) := by simp
          have B4 := Lib.hid (B1.out.keep c4)
          have NZ := Lib.hid (B1.out.newz (Nat.le_refl _))
          have ZY := Lib.hid (show w3.heap.size ≠ y by have := lt_heap hx1; omega)
          clear c4 hx1 B1
          generalize w3.heap.size = z at hz4 NZ ZY ⊢
          generalize w3.alloc (.cells (sec seZ) 33) = w4 at hx4 hz4 B4 ⊢
          refine (spop_ok B4.out.2.1).mono ?_
          rintro e w5 ⟨rfl, c5, b5⟩
          have hx5 := c5.keep hx4 NX.out
          have hz5 := c5.keep hz4 (by simpa using NZ.out.2.1)
          have B5 := Lib.hid (B4.out.one c5 b5)
          have oz5 := old hz5
          have ox5 := old hx5
          clear c5 b5 hx4 hz4 B4
          go_wp2_with fail
          have c6 : Chg [z] w5 (putRow w5 z 0 (sec (hdE es))) := (Chg.refl [z] w5).putRow _ _ _ (.inl (by simp))
          have hz6 : (putRow w5 z 0 (sec (hdE es))).heap[z]? = some (.cells (sec (hdE es)) 33 (0, 0)) := by
            rw [heap_putRow _ _ _ _ _ (by rw [hz5, rowHas_some, sec_size, sec_size]; simp), if_pos rfl, hz5, rowPut_full _ _ _ _ (by rw [sec_size, sec_size])]
          have hx6 := c6.keep hx5 (by simpa using Ne.symm ZY.out)
          have B6 := Lib.hid (B5.out.side c6 NZ.out.1 NZ.out.2.1 NZ.out.2.2.1 NZ.out.2.2.2)
          clear c6 hx5 hz5 B5 oz5 ox5
          generalize putRow w5 z 0 (sec (hdE es)) = w6 at hz6 hx6 B6 ⊢
          rcases es with _ | ⟨x0, es'⟩
          · rw [show hdE [] = seZ from rfl] at hz6
            try rw [show hdB [] = false from rfl]
            obtain ⟨⟨A6, cap6, hp6, _⟩, _⟩ := B6.out.2.2.1
            simp only [List.length_nil] at hp6
            have hz := fun u : Aft w6.heap.size w6 => (u.block (old hz6).lt).trans hz6
            have hq := fun u : Aft w6.heap.size w6 => (u.block (old hp6).lt).trans hp6
            clear hz6 hp6
            refine wp_region_aft w6.heap.size (by kernel_rfl) (by kernel_rfl) ?_
            repeat (go_big_quiet_step (first
              | (go_at_call 12; exact calls_aft_chg12 (Nat.le_refl _) (own12 _ _))))
            refine wpQuiet_nil ?_
            rintro _ ⟨u7, rfl⟩
            have c7 : Chg [] w6 u7.w := Below.chg u7.below (Nat.le_refl _)
            clear hz hq
            have B7 := Lib.hid (B6.out.keep c7)
            have hx7 := c7.keep hx6 (by simp)
            have ox7 := old hx7
            clear c7 hx6 B6
            generalize u7.w = w7 at hx7 B7 ox7 ⊢
            go_wp2_with fail
            refine (rbpop_ok B7.out.2.2.1).mono ?_
            rintro e w8 ⟨rfl, bp8, n8, c8, b8⟩
            have B9 := Lib.hid (B7.out.other c8 b8 n8)
            clear c8 b8 n8 hx7 ox7
            go_wp2_with fail
            go_meet
            case rel => exact ⟨_, _, B9.out⟩
          · rw [show hdE (x0 :: es') = x0 from rfl] at hz6
            try rw [show hdB (x0 :: es') = true from rfl]
            obtain ⟨⟨A6, cap6, hp6, hv6⟩, _⟩ := B6.out.2.2.1
            obtain ⟨_, rfl, r6, hb6, _⟩ := hv6.there (by simp)
            have hat := se_at (es := x0 :: es') (k := 0) rfl r6 38 (0, 0)
            simp only [Nat.zero_mul] at hat
            obtain ⟨hi0, hp0⟩ := hat
            have hpos : (0 : Int) < ((x0 :: es').length : Int) := by rw [List.length_cons]; omega
            have hpos2 : 0 < (x0 :: es').length := by simp
            generalize (x0 :: es').length = m at hp6 hpos hpos2
            have hz := fun u : Aft w6.heap.size w6 => (u.block (old hz6).lt).trans hz6
            have hq := fun u : Aft w6.heap.size w6 => (u.block (old hp6).lt).trans hp6
            have hbb := fun u : Aft w6.heap.size w6 => (u.block (old hb6).lt).trans hb6
            clear hz6 hp6 hv6 hb6
            refine wp_region_aft w6.heap.size (by kernel_rfl) (by kernel_rfl) ?_
            repeat (go_big_quiet_step (first
              | (go_at_call 12; exact calls_aft_chg12 (Nat.le_refl _) (own12 _ _))))
            refine wpQuiet_nil ?_
            rintro _ ⟨u7, rfl⟩
            have c7 : Chg [] w6 u7.w := Below.chg u7.below (Nat.le_refl _)
            clear hz hq hbb hi0 hp0 hpos hpos2
            have B7 := Lib.hid (B6.out.keep c7)
            have hx7 := c7.keep hx6 (by simp)
            have ox7 := old hx7
            clear c7 hx6 B6
            generalize u7.w = w7 at hx7 B7 ox7 ⊢
            go_wp2_with fail
            refine (rbpop_ok B7.out.2.2.1).mono ?_
            rintro e w8 ⟨rfl, bp8, n8, c8, b8⟩
            have B9 := Lib.hid (B7.out.other c8 b8 n8)
            clear c8 b8 n8 hx7 ox7
            go_wp2_with fail
            go_meet
            case rel => exact ⟨_, _, B9.out⟩
        have tk1 : (kd == 1) = false := by simpa using k1
        by_cases k2 : kd = 2
        · have tk : (kd == 2) = true := by simp [k2]
          clear k1 k0 k2
          go_wp2_with fail
          have c4 := (Chg.refl [] w3).alloc (.cells (sec seZ) 33)
          have hx4 := c4.keep hx1 (by simp)
          have hz4 : (w3.alloc (.cells (sec seZ) 33)).heap[w3.heap.size]? = some (.cells (sec seZ) 33 (0, 0)) := by simp
          have B4 := Lib.hid (B1.out.keep c4)
          have NZ := Lib.hid (B1.out.newz (Nat.le_refl _))
          have ZY := Lib.hid (show w3.heap.size ≠ y by have := lt_heap hx1; omega)
          clear c4 hx1 B1
          generalize w3.heap.size = z at hz4 NZ ZY ⊢
          generalize w3.alloc (.cells (sec seZ) 33) = w4 at hx4 hz4 B4 ⊢
          refine (shead_ok B4.out.2.1).mono ?_
          rintro e w5 ⟨rfl, c5⟩
          have hx5 := c5.keep hx4 (by simp)
          have hz5 := c5.keep hz4 (by simp)
          have B5 := Lib.hid (B4.out.keep c5)
          have oz5 := old hz5
          have ox5 := old hx5
          clear c5 hx4 hz4 B4
          go_wp2_with fail
          have c6 : Chg [z] w5 (putRow w5 z 0 (sec (hdE es))) := (Chg.refl [z] w5).putRow _ _ _ (.inl (by simp))
          have hz6 : (putRow w5 z 0 (sec (hdE es))).heap[z]? = some (.cells (sec (hdE es)) 33 (0, 0)) := by
            rw [heap_putRow _ _ _ _ _ (by rw [hz5, rowHas_some, sec_size, sec_size]; simp), if_pos rfl, hz5, rowPut_full _ _ _ _ (by rw [sec_size, sec_size])]
          have hx6 := c6.keep hx5 (by simpa using Ne.symm ZY.out)
          have B6 := Lib.hid (B5.out.side c6 NZ.out.1 NZ.out.2.1 NZ.out.2.2.1 NZ.out.2.2.2)
          clear c6 hx5 hz5 B5 oz5 ox5
          generalize putRow w5 z 0 (sec (hdE es)) = w6 at hz6 hx6 B6 ⊢
          rcases es with _ | ⟨x0, es'⟩
          · rw [show hdE [] = seZ from rfl] at hz6
            try rw [show hdB [] = false from rfl]
            obtain ⟨⟨A6, cap6, hp6, _⟩, _⟩ := B6.out.2.2.1
            simp only [List.length_nil] at hp6
            have hz := fun u : Aft w6.heap.size w6 => (u.block (old hz6).lt).trans hz6
            have hq := fun u : Aft w6.heap.size w6 => (u.block (old hp6).lt).trans hp6
            clear hz6 hp6
            refine wp_region_aft w6.heap.size (by kernel_rfl) (by kernel_rfl) ?_
            repeat (go_big_quiet_step (first
              | (go_at_call 12; exact calls_aft_chg12 (Nat.le_refl _) (own12 _ _))))
            refine wpQuiet_nil ?_
            rintro _ ⟨u7, rfl⟩
            have c7 : Chg [] w6 u7.w := Below.chg u7.below (Nat.le_refl _)
            clear hz hq
            have B7 := Lib.hid (B6.out.keep c7)
            have hx7 := c7.keep hx6 (by simp)
            have ox7 := old hx7
            clear c7 hx6 B6
            generalize u7.w = w7 at hx7 B7 ox7 ⊢
            go_wp2_with fail
            go_meet
            case rel => exact ⟨_, _, B7.out⟩
          · rw [show hdE (x0 :: es') = x0 from rfl] at hz6
            try rw [show hdB (x0 :: es') = true from rfl]
            obtain ⟨⟨A6, cap6, hp6, hv6⟩, _⟩ := B6.out.2.2.1
            obtain ⟨_, rfl, r6, hb6, _⟩ := hv6.there (by simp)
            have hat := se_at (es := x0 :: es') (k := 0) rfl r6 38 (0, 0)
            simp only [Nat.zero_mul] at hat
            obtain ⟨hi0, hp0⟩ := hat
            have hpos : (0 : Int) < ((x0 :: es').length : Int) := by rw [List.length_cons]; omega
            have hpos2 : 0 < (x0 :: es').length := by simp
            generalize (x0 :: es').length = m at hp6 hpos hpos2
            have hz := fun u : Aft w6.heap.size w6 => (u.block (old hz6).lt).trans hz6
            have hq := fun u : Aft w6.heap.size w6 => (u.block (old hp6).lt).trans hp6
            have hbb := fun u : Aft w6.heap.size w6 => (u.block (old hb6).lt).trans hb6
            clear hz6 hp6 hv6 hb6
            refine wp_region_aft w6.heap.size (by kernel_rfl) (by kernel_rfl) ?_
            repeat (go_big_quiet_step (first
              | (go_at_call 12; exact calls_aft_chg12 (Nat.le_refl _) (own12 _ _))))
            refine wpQuiet_nil ?_
            rintro _ ⟨u7, rfl⟩
            have c7 : Chg [] w6 u7.w := Below.chg u7.below (Nat.le_refl _)
            clear hz hq hbb hi0 hp0 hpos hpos2
            have B7 := Lib.hid (B6.out.keep c7)
            have hx7 := c7.keep hx6 (by simp)
            have ox7 := old hx7
            clear c7 hx6 B6
            generalize u7.w = w7 at hx7 B7 ox7 ⊢
            go_wp2_with fail
            go_meet
            case rel => exact ⟨_, _, B7.out⟩
        have tk2 : (kd == 2) = false := by simpa using k2
        by_cases k3 : kd = 3
        · have tk : (kd == 3) = true := by simp [k3]
          have ox1 := old hx1
          clear k1 k0 k2 k3
          go_wp2_with fail
          refine (sfind_ok x.li x.wo B1.out.2.1).mono ?_
          rintro e w4 ⟨rfl, c4⟩
          have hx4 := c4.keep hx1 (by simp)
          have ox4 := old hx4
          have B4 := Lib.hid (B1.out.keep c4)
          clear c4 hx1 ox1
          go_wp2_with fail
          refine (rbfind_ok x.li x.wo B4.out.2.2.1).mono ?_
          rintro e w5 ⟨rfl, c5⟩
          have B5 := Lib.hid (B4.out.keep c5)
          have tv : (fdV es x.li x.wo != fdV es x.li x.wo) = false := by simp
          have tb : (fdB es x.li x.wo != fdB es x.li x.wo) = false := by simp
          clear c5 hx4 ox4
          go_wp2_with fail
          go_meet
          case rel => exact ⟨_, _, B5.out.keep ((Chg.refl [] w5).alloc _)⟩
        have tk3 : (kd == 3) = false := by simpa using k3
        by_cases k4 : kd = 4
        · have tk : (kd == 4) = true := by simp [k4]
          clear k1 k0 k2 k3 k4
          have ox1 := old hx1
          go_wp2_with fail
          refine (ssend_ok B1.out.2.1).mono ?_
          rintro e w4 ⟨rfl, c4, b4⟩
          have B4 := Lib.hid (B1.out.one c4 b4)
          clear c4 b4 hx1 ox1
          go_wp2_with fail
          refine (rbsend_ok B4.out.2.2.1).mono ?_
          rintro e w5 ⟨rfl, bp5, n5, c5, b5⟩
          have B5 := Lib.hid (B4.out.other c5 b5 n5)
          clear c5 b5 n5
          go_wp2_with fail
          go_meet
          case rel => exact ⟨_, _, B5.out⟩
        have tk4 : (kd == 4) = false := by simpa using k4
        by_cases k5 : kd = 5
        · have tk : (kd == 5) = true := by simp [k5]
          clear k1 k0 k2 k3 k4 k5
          have ox1 := old hx1
          go_wp2_with fail
          refine (sclear_ok B1.out.2.1).mono ?_
          rintro e w4 ⟨rfl, c4, b4⟩
          have B4 := Lib.hid (B1.out.one c4 b4)
          obtain ⟨⟨A4, cap4, hp4, _⟩, _⟩ := B4.out.2.2.1
          have B5 := Lib.hid (B4.out.other0 ((Chg.refl [p] w4).setCell p 1 (.slice none 0 0) (.inl (by simp))) (rb_nil B4.out.2.2.1))
          have op4 := old hp4
          clear c4 b4 hx1 ox1
          go_wp2_with fail
          go_meet
          case rel => exact ⟨_, _, B5.out⟩
        have tk5 : (kd == 5) = false := by simpa using k5
        clear k1 k0 k2 k3 k4 k5
        have ox1 := old hx1
        go_wp2_with fail
        go_meet
        case rel => exact ⟨_, _, B1.out⟩
      case rest =>
        obtain ⟨bp9, es9, hb9⟩ := hcut
        have B9 := Lib.hid hb9
        clear hb9
        rename World => w9
        go_wp2_with fail
        obtain ⟨⟨A9, cap9, hp9, hv9⟩, _⟩ := B9.out.2.2.1
        have HS9 := Lib.hid (hv9.sl Se.len)
        have HL9 := Lib.hid B9.out.len16
        have tn : ((es9.length : Int) != (es9.length : Int)) = false := by simp
        have D9 := Lib.hid ((Chg.refl [] w9).drew)
        clear hv9
        go_region_held3 (fun w' => w'.heap[p]? = some (.cells #[.int .i64 R, .slice A9 es9.length cap9] 44 (0, 0))) (first | exact hp9 | exact (D9.out.trans c10).keep hp9 (by simp) | exact ((D9.out.trans c10).trans c11).keep hp9 (by simp))
          (first
            | (go_at_call 21; refine (slen_ok (B9.out.keep D9.out).2.1).mono ?_; rintro e w' ⟨rfl, rfl⟩)
            | (go_at_call 23; refine (sall_ok (B9.out.keep D9.out).2.1).mono ?_; rintro e w10 ⟨b, rfl, hbn, c10, hb10⟩)
            | (go_at_call 22; refine (same12 (sl_told hb10) (HS9.out.chg (D9.out.trans c10) (by simp)) rfl (by have := HL9.out; omega)).mono ?_; rintro e w11 ⟨rfl, c11⟩))
        all_goals
          have B11 := Lib.hid (B9.out.keep ((D9.out.trans c10).trans c11))
          clear c10 c11 hb10 hbn hp9
          go_wp2_with fail
          go_roundw
          case rel => exact ⟨k + 1, bp9, es9, by have := HLT.out; omega, by go_num, B11.out⟩
          case measure => have := HLT.out; simp [intOf]; omega
    · obtain rfl : k = N := by omega
      have t1 : decide (k < k) = false := by simp
      go_wp2_with (go_at_call 7; refine (bwakes _).mono ?_; rintro e w5 ⟨rfl, c5⟩; have C5 := Lib.hid c5; clear c5)
      go_ret
      exact ⟨rfl, B.out.1.trans C5.out⟩
end Go.Proofs.Ytibnehmgeccedaa
