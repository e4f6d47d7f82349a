/- WpqPlays, walked. No condition. -/
import Derived.Test.YtaignekkhfjicaaWpqg
import Derived.Deep.Cut
import Derived.Deep.CutBlock
import Derived.Deep.CutRange
import Derived.Deep.LoopGhost
namespace Go.Proofs.Ytaignekkhfjicaa
open Go.RowKit
set_option linter.unusedVariables false
attribute [local go_sem ↓] append_appS copy_copS clear_clrS make_mkS cell_row frozen_row loadLine storeLine loadEnt storeEnt loadREnt storeREnt loadQStep storeQStep heap_drew heap_drewN heap_alloc heap_past heap_setCell heap_putRow vs_get entc_pos stc_kd stc_li
attribute [local go_sem] rowCell_some rowFrozen_some rowHas_some rowIn_some rowPart_full rowPart_lit rowPut_full rowPut_lit rowSet_some size_putRow vs_size vs_one wideLine wideEnt wideREnt wideQStep run_loadS run_storeS run_appS run_copS run_clrS run_mkS loadW_at storeW_at fit_all fit_le one_int one_bool one_pointer one_slice allOne_list putRow_new ne_size1 ne_size2 ne_size3 ne_size4 zero8_length lines_nil line_eq lit8 entc_size entc_one entc_part entc_in entc_made fold_ent fold_entc fold_vs vs_set stc_size stc_one stc_l
attribute [local simp ↓] heap_drew heap_drewN heap_alloc heap_past heap_setCell heap_putRow
attribute [local simp] rowCell_some rowFrozen_some rowHas_some rowIn_some rowPart_full rowPart_lit rowPut_full rowPut_lit rowSet_some size_putRow vs_size fit_all putRow_new ne_size1 ne_size2 ne_size3 ne_size4 zero8_length entc_size

theorem Both.rsl {W w : World} {q be g b p bp o bq n v room : Nat} {es es' : List Ent} {xs xs' : List Int} (h : Both W w q be g b p bp o bq n v room es xs es' xs') : Sl w 8 (some ⟨bq, 0, none⟩) n (xs'.map (Value.int .u64)) := h.2.1.2.1.sl
theorem step_row {w : World} {o b n : Nat} {xs : List Value} (hA : Sl w 10 (some ⟨b, o, none⟩) n xs) {i : Nat} (hi : i < n) (hk : AreKd w kQStep ((xs.drop (i * 10)).take 10)) :
    ∃ (x : Stp) (c : Array Value) (t : TypeId) (f : Nat × Nat), w.heap[b]? = some (.cells c t f) ∧ rowIn (some (.cells c t f)) (o + i * 10) 10 = true ∧ rowPart (some (.cells c t f)) (o + i * 10) 10 = stc x := by
  obtain ⟨kd, li, l, hl8, hy⟩ := qstep_cells hk
  obtain ⟨cs, t, f, hb, _, hp⟩ := hA.elem (by omega) hi hy
  have h0 := hp 0 10 (by omega)
  rw [Nat.add_zero] at h0
  refine ⟨⟨kd, li, l, hl8⟩, cs, t, f, hb, h0.1, ?_⟩
  rw [h0.2]
  simp [stc, List.take_of_length_le, hl8]

set_option maxRecDepth 100000 in
set_option maxHeartbeats 8000000 in
theorem qplays_any (ni vi ri : Int) (A : Option Addr) (N c : Nat) (xs : List Value) (W : World) (hA : Sl W 10 A N xs) (hN : N ≤ maxLen) (hk : ∀ i, i < N → AreKd W kQStep ((xs.drop (i * 10)).take 10)) :
    Calls Try.prog 3 #[.agg #[.int .i64 ni, .int .i64 vi, .int .i64 ri], .slice A N c] W fun e w' => e = .returned (.bool true) ∧ Chg [] W w' := by
  unfold maxLen at hN
  have HA := Lib.hid hA
  have HK := Lib.hid hk
  clear hA hk
  by_cases h200 : 200 < N
  · have t0 : decide (200 < N) = true := by simpa using h200
    go_enter Try.func3, Try.ntmps3
    go_wp2_with (go_at_call 8; refine (wakes_true _).mono ?_; rintro e w2 ⟨rfl, c2⟩; have C2 := Lib.hid (((Chg.refl [] W).alloc (.cells #[.int .i64 ni, .int .i64 vi, .int .i64 ri] 22)).trans c2); clear c2)
    go_ret
    exact ⟨rfl, C2.out⟩
  have t0 : decide (200 < N) = false := by simpa using h200
  go_enter Try.func3, Try.ntmps3
  go_wp2_with fail
  have hx0 : (W.alloc (.cells #[.int .i64 ni, .int .i64 vi, .int .i64 ri] 22)).heap[W.heap.size]? = some (.cells #[.int .i64 ni, .int .i64 vi, .int .i64 ri] 22 (0, 0)) := by simp
  have C0 := Lib.hid ((Chg.refl [] W).alloc (.cells #[.int .i64 ni, .int .i64 vi, .int .i64 ri] 22))
  have Z0 := Lib.hid (show (W.alloc (.cells #[.int .i64 ni, .int .i64 vi, .int .i64 ri] 22)).heap.size = W.heap.size + 1 by simp)
  generalize W.alloc (.cells #[.int .i64 ni, .int .i64 vi, .int .i64 ri] 22) = w0 at hx0 C0 Z0 ⊢
  have ox0 := old hx0
  by_cases hgood : 2 ≤ ni ∧ ni ≤ 64 ∧ 1 ≤ vi ∧ vi < ni
  · obtain ⟨n, rfl⟩ := Int.eq_ofNat_of_zero_le (show 0 ≤ ni by omega)
    obtain ⟨v, rfl⟩ := Int.eq_ofNat_of_zero_le (show 0 ≤ vi by omega)
    have N2 : 2 ≤ n := by omega
    have N64 : n ≤ 64 := by omega
    have V1 : 1 ≤ v := by omega
    have VN : v < n := by omega
    clear hgood
    refine (new_ok n v w0 N2 N64 V1 VN).mono ?_
    rintro e w1 ⟨rfl, c1, d1, z1⟩
    have hx1 := c1.keep hx0 (by simp)
    have D1 := Lib.hid d1
    have C1 := Lib.hid (C0.out.trans c1)
    have Z1 := Lib.hid z1
    have ox1 := old hx1
    clear d1 c1 z1 hx0 ox0
    go_wp2_with fail
    refine (rnew_ok n v w1 N2 N64 V1 VN).mono ?_
    rintro e w2 ⟨rfl, c2, d2, z2⟩
    have hx2 := c2.keep hx1 (by simp)
    have D2 := Lib.hid (D1.out.keep c2 (by simp) (by simp))
    have R2 := Lib.hid d2
    have C2 := Lib.hid (C1.out.trans c2)
    have Z2 := Lib.hid z2
    have ox2 := old hx2
    clear c2 d2 z2 hx1 ox1
    go_wp2_with fail
    by_cases hroom : 1 ≤ ri ∧ ri ≤ 16
    · obtain ⟨room, rfl⟩ := Int.eq_ofNat_of_zero_le (show 0 ≤ ri by omega)
      have R1 : 1 ≤ room := by omega
      have R16 : room ≤ 16 := by omega
      clear hroom
      refine (sys_new W n v room w2 (w0.heap.size + 1) w0.heap.size _ C2.out D2.out (by have := C0.out.size; omega) (by have := C0.out.size; omega) R1 R16).mono ?_
      rintro e w3 ⟨q, rfl, s3, c3, hqn⟩
      have hx3 := c3.keep hx2 (by simp)
      have R3 := Lib.hid (R2.out.keep c3 (by simp) (by simp))
      have Z3 := Lib.hid c3.size
      have S3 := Lib.hid s3
      have ox3 := old hx3
      clear c3 s3 hx2 ox2
      go_wp2_with fail
      refine (rqnew_ok (w1.heap.size + 1) n room w3 N2 N64 R1 R16).mono ?_
      rintro e w4 ⟨p, rfl, hp4, c4, q4⟩
      have hsys := S3.out.keep c4
      have B4 : Both W w4 q q (w0.heap.size + 1) w0.heap.size p p (w1.heap.size + 1) w1.heap.size n v room [] (List.replicate (n * 8) 0) [] (List.replicate (n * 8) 0) := by
        have z0 := Z0.out
        have z1 := Z1.out
        have z2 := Z2.out
        have z3 := Z3.out
        have qo := S3.out.2.1.oldq.lt
        have hqd := S3.out.2.2.2.1
        refine ⟨hsys, ⟨q4, R3.out.keep c4 (by simp) (by simp), ⟨by omega, by omega, by omega, by omega⟩⟩, ?_, ?_⟩
        · simp only [List.mem_cons, List.not_mem_nil, or_false, not_or, forall_eq_or_imp, forall_eq]
          have hq2 : w2.heap.size ≤ q := hqn
          refine ⟨⟨by omega, by omega, by omega, by omega⟩, ⟨by omega, by omega, by omega, by omega⟩, ⟨by omega, by omega, by omega, by omega⟩, by omega, by omega, by omega, by omega⟩
        · simp only [List.mem_cons, List.not_mem_nil, or_false, forall_eq_or_imp, forall_eq]
          refine ⟨by omega, by omega, by omega, by omega⟩
      have B := Lib.hid B4
      clear hsys q4 c4 B4 hx3 ox3
      go_wp2_with fail
      generalize w0.heap.size + 1 = g at B ⊢
      generalize w0.heap.size = b at B ⊢
      generalize w1.heap.size + 1 = o at B ⊢
      generalize w1.heap.size = bq at B ⊢
      have N64' := Lib.hid N64
      clear N2 N64 V1 VN R1 R16 Z0 Z1 Z2 Z3 D1 D2 R2 R3 S3 C0 C1 C2 hqn hp4
      go_loopg [13] N (fun gh i wr => ∃ (k be bp : Nat) (es : List Ent) (xs2 : List Int), k ≤ N ∧ gh = N - k ∧ i = .int .i64 k ∧ Both W wr q be g b p bp o bq n v room es xs2 es xs2)
      case atStart => exact ⟨0, q, p, [], _, by omega, by omega, rfl, B.out⟩
      case round =>
        obtain ⟨k, be, bp, es, xs2, hkN, hgk, rfl, hboth⟩ := hrel
        have HGK := Lib.hid hgk
        clear hgk
        have S := Lib.hid hboth
        clear hboth
        have g0 : (0 : Int) ≤ (k : Int) := by omega
        by_cases hlt : k < N
        · have t1 : decide (k < N) = true := by simpa using hlt
          have g1 : (k : Int) < (N : Int) := by omega
          obtain ⟨ba, oa, rfl⟩ := HA.out.addr (by omega)
          obtain ⟨x, cs, t, f, hb, hi, hp⟩ := step_row HA.out hlt (HK.out k hlt)
          have hbr := S.out.1.1.keep hb (by simp)
          have obr := old hbr
          have B1 := Lib.hid (S.out.keep ((Chg.refl [] wr).alloc (.cells (stc x) 42)))
          have hx1 : (wr.alloc (.cells (stc x) 42)).heap[wr.heap.size]? = some (.cells (stc x) 42 (0, 0)) := by simp
          have NX := Lib.hid (S.out.else1 (Nat.le_refl _))
          have NY := Lib.hid (S.out.else2 (Nat.le_refl _))
          have hxl := x.h
          clear hb
          go_upto_block 2 with (fail)
          generalize wr.alloc (.cells (stc x) 42) = w3 at hx1 B1 ⊢
          go_cut [15, 16, 17, 18, 19, 20] from 70 to 189 (fun s15 s16 s17 s18 s19 s20 wx => ∃ (val : Int) (be9 bp9 : Nat) (es9 : List Ent) (xs9 : List Int), s15 = .int .i64 val ∧ s16 = .int .i64 val ∧ Both W wx q be9 g b p bp9 o bq n v room es9 xs9 es9 xs9)
          case first =>
            by_cases k0 : x.kd = 0
            · have tk : (x.kd == 0) = true := by simp [k0]
              go_wp2_with fail
              go_region_held3 (fun w' => w'.heap[wr.heap.size]? = some (.cells (stc x) 42 (0, 0))) (first | exact hx1 | exact c4.keep hx1 NX.out | exact c5.keep (c4.keep hx1 NX.out) NY.out)
                (first
                  | (go_at_call 13; refine (any_push (B1.out.keep ((Chg.refl [] w3).drew)).1 x.li x.l x.h).mono ?_; rintro e w' ⟨rfl, be9, s4, c4, n4⟩)
                  | (go_at_call 14; refine (rany_push ((B1.out.keep ((Chg.refl [] w3).drew)).one s4 c4 n4).2.1 x.li x.l x.h).mono ?_; rintro e w' ⟨rfl, bp9, s5, c5, n5⟩))
              all_goals
                have B9 := Lib.hid (((B1.out.keep ((Chg.refl [] w3).drew)).one s4 c4 n4).other s5 c5 n5)
                clear s4 c4 n4 s5 c5 n5 hx1
                rename World => w9
                generalize pushEs n room es x.li x.l x.h = es9 at B9
                generalize xs2 = xs9 at B9
                go_wp2_with fail
                go_meet
                case rel => exact ⟨pushVal n room es x.li, be9, bp9, es9, xs9, rfl, rfl, B9.out⟩
            have tk0 : (x.kd == 0) = false := by simpa using k0
            by_cases k1 : x.kd = 1
            · have tk : (x.kd == 1) = true := by simp [k1]
              go_wp2_with fail
              have HL := Lib.hid (readLn_length (X := over xs2 es) x.li S.out.1.over)
              obtain ⟨L, HLE⟩ : ∃ L, Hid (readLn n (over xs2 es) x.li = L) := ⟨_, Lib.hid rfl⟩
              refine (any_read B1.out.1 x.li).mono ?_
              rintro e w4 ⟨rfl, be9, s4, c4, n4⟩
              rw [HLE.out]
              have hL8 : L.length = 8 := by rw [← HLE.out]; exact HL.out
              have hx4 := c4.keep hx1 NX.out
              have ox4 := old hx4
              have B4 := Lib.hid ((B1.out.one s4 c4 n4).keep ((Chg.refl [] w4).alloc (.cells (vs L) 40)))
              have hm4 : (w4.alloc (.cells (vs L) 40)).heap[w4.heap.size]? = some (.cells (vs L) 40 (0, 0)) := by simp
              have NM := Lib.hid ((B1.out.one s4 c4 n4).else2 (Nat.le_refl _))
              clear s4 c4 n4 hx1
              go_wp2_with fail
              generalize w4.alloc (.cells (vs L) 40) = w5 at B4 hm4 ⊢
              refine (rany_read B4.out.2.1 x.li).mono ?_
              rintro e w6 ⟨rfl, bp9, s6, c6, n6⟩
              rw [HLE.out]
              have hm6 := c6.keep hm4 NM.out
              have om6 := old hm6
              have B9 := Lib.hid ((B4.out.other s6 c6 n6).keep ((Chg.refl [] w6).alloc (.cells (vs L) 40)))
              have HZ := fun W => line_eq L L hL8 hL8 W
              clear s6 c6 n6 hm4 hx4 ox4
              go_wp2_with fail
              go_meet
              case rel => exact ⟨readVal n x.li, be9, bp9, es, xs2, rfl, rfl, B9.out⟩
            have tk1 : (x.kd == 1) = false := by simpa using k1
            by_cases k2 : x.kd = 2
            · have tk : (x.kd == 2) = true := by simp [k2]
              go_wp2_with fail
              go_region_held3 (fun w' => w'.heap[wr.heap.size]? = some (.cells (stc x) 42 (0, 0))) (first | exact hx1 | exact c4.keep hx1 NX.out | exact c5.keep (c4.keep hx1 NX.out) NY.out)
                (first
                  | (go_at_call 17; refine (any_drain (B1.out.keep ((Chg.refl [] w3).drew)).1 x.li).mono ?_; rintro e w' ⟨rfl, be9, s4, c4, n4⟩)
                  | (go_at_call 18; refine (rany_drain ((B1.out.keep ((Chg.refl [] w3).drew)).one s4 c4 n4).2.1 x.li).mono ?_; rintro e w' ⟨rfl, bp9, s5, c5, n5⟩))
              all_goals
                have B9 := Lib.hid (((B1.out.keep ((Chg.refl [] w3).drew)).one s4 c4 n4).other s5 c5 n5)
                clear s4 c4 n4 s5 c5 n5 hx1
                rename World => w9
                generalize drainEs es x.li = es9 at B9
                generalize drainXs xs2 es x.li = xs9 at B9
                go_wp2_with fail
                go_meet
                case rel => exact ⟨drainVal es x.li, be9, bp9, es9, xs9, rfl, rfl, B9.out⟩
            have tk2 : (x.kd == 2) = false := by simpa using k2
            by_cases k3 : x.kd = 3
            · have tk : (x.kd == 3) = true := by simp [k3]
              go_wp2_with fail
              refine (sys_fail B1.out.1).mono ?_
              rintro e w4 ⟨rfl, be9, s4, c4, n4⟩
              have B4 := Lib.hid (B1.out.one s4 c4 n4)
              clear s4 c4 n4 hx1
              go_wp2_with fail
              refine (rany_fail B4.out.2.1).mono ?_
              rintro e w9 ⟨rfl, bp9, s6, c6, n6⟩
              have B9 := Lib.hid (B4.out.other s6 c6 n6)
              clear s6 c6 n6
              go_wp2_with fail
              go_meet
              case rel => exact ⟨0, be9, bp9, [], forget (over xs2 es) v, rfl, rfl, B9.out⟩
            have tk3 : (x.kd == 3) = false := by simpa using k3
            by_cases k4 : x.kd = 4
            · have tk : (x.kd == 4) = true := by simp [k4]
              go_wp2_with fail
              go_region_held3 (fun w' => w'.heap[wr.heap.size]? = some (.cells (stc x) 42 (0, 0))) (first | exact hx1 | exact c4.keep hx1 NX.out | exact c5.keep (c4.keep hx1 NX.out) NY.out)
                (first
                  | (go_at_call 21; refine (any_write (B1.out.keep ((Chg.refl [] w3).drew)).1 x.li x.l x.h).mono ?_; rintro e w' ⟨rfl, be9, s4, c4, n4⟩)
                  | (go_at_call 22; refine (rany_write ((B1.out.keep ((Chg.refl [] w3).drew)).one s4 c4 n4).2.1 x.li x.l x.h).mono ?_; rintro e w' ⟨rfl, bp9, s5, c5, n5⟩))
              all_goals
                have B9 := Lib.hid (((B1.out.keep ((Chg.refl [] w3).drew)).one s4 c4 n4).other s5 c5 n5)
                clear s4 c4 n4 s5 c5 n5 hx1
                rename World => w9
                generalize es = es9 at B9
                generalize writeXs n xs2 x.li x.l = xs9 at B9
                go_wp2_with fail
                go_meet
                case rel => exact ⟨readVal n x.li, be9, bp9, es9, xs9, rfl, rfl, B9.out⟩
            have tk4 : (x.kd == 4) = false := by simpa using k4
            go_wp2_with fail
            go_meet
            case rel => exact ⟨0, be, bp, es, xs2, rfl, rfl, B1.out⟩
          case rest =>
            obtain ⟨val, be9, bp9, es9, xs9, rfl, rfl, hb9⟩ := hcut
            have B9 := Lib.hid hb9
            clear hb9
            rename World => w9
            have tv : (val != val) = false := by simp
            obtain ⟨⟨AP, cp9, hp9, _⟩, _⟩ := B9.out.2.1.1
            obtain ⟨⟨cq9, ho9⟩, _⟩ := B9.out.2.1.2.1
            have HSX := Lib.hid B9.out.1.over
            have HS9 := Lib.hid B9.out.1.size
            have N64 := Lib.hid B9.out.1.n64
            go_wp2_with fail
            go_region_held3 (fun w' => w'.heap[p]? = some (.cells #[.pointer (some ⟨o, 0, none⟩), .int .i64 room, .slice AP es9.length cp9] 54 (0, 0)) ∧ w'.heap[o]? = some (.cells #[.slice (some ⟨bq, 0, none⟩) n cq9, .int .i64 v] 62 (0, 0))) (first | exact ⟨hp9, ho9⟩ | exact ⟨c11.keep hp9 (by simp), c11.keep ho9 (by simp)⟩ | exact ⟨(c11.trans c12).keep hp9 (by simp), (c11.trans c12).keep ho9 (by simp)⟩ | exact ⟨((c11.trans c12).trans c13).keep hp9 (by simp), ((c11.trans c12).trans c13).keep ho9 (by simp)⟩ | exact ⟨(((c11.trans c12).trans c13).trans c14).keep hp9 (by simp), (((c11.trans c12).trans c13).trans c14).keep ho9 (by simp)⟩ | exact ⟨((((c11.trans c12).trans c13).trans c14).trans c15).keep hp9 (by simp), ((((c11.trans c12).trans c13).trans c14).trans c15).keep ho9 (by simp)⟩ | exact ⟨(((((c11.trans c12).trans c13).trans c14).trans c15).trans c16).keep hp9 (by simp), (((((c11.trans c12).trans c13).trans c14).trans c15).trans c16).keep ho9 (by simp)⟩ | exact ⟨((((((c11.trans c12).trans c13).trans c14).trans c15).trans c16).trans c17).keep hp9 (by simp), ((((((c11.trans c12).trans c13).trans c14).trans c15).trans c16).trans c17).keep ho9 (by simp)⟩ | exact ⟨(((((((c11.trans c12).trans c13).trans c14).trans c15).trans c16).trans c17).trans c18).keep hp9 (by simp), (((((((c11.trans c12).trans c13).trans c14).trans c15).trans c16).trans c17).trans c18).keep ho9 (by simp)⟩)
              (first
                | (go_at_call 23; refine (qlen_ok q be9 g n room es9 _ (B9.out.keep ((Chg.refl [] w9).drew)).1.2.1).mono ?_; rintro e w' ⟨rfl, rfl⟩)
                | (go_at_call 25; refine (qlines_ok q be9 g n room es9 _ (B9.out.keep ((Chg.refl [] w9).drew)).1.2.1).mono ?_; rintro e w' ⟨A11, cc11, rfl, s11, c11⟩)
                | (go_at_call 26; refine (rqlines_ok p bp9 o n room es9 _ ((B9.out.keep ((Chg.refl [] w9).drew)).keep c11).2.1.1).mono ?_; rintro e w' ⟨A12, cc12, rfl, s12, c12⟩)
                | (go_at_call 24; refine (ints_same A11 A12 _ cc11 cc12 (poss es9) _ (s11.chg c12 (by simp)) s12 (by rw [poss_length]; have := (B9.out.keep ((Chg.refl [] w9).drew)).1.len; have := (B9.out.keep ((Chg.refl [] w9).drew)).1.room16; omega)).mono ?_; rintro e w' ⟨rfl, c13⟩)
                | (go_at_call 28; refine (qimage_ok q be9 g b n v room es9 xs9 _ ((((B9.out.keep ((Chg.refl [] w9).drew)).keep c11).keep c12).keep c13).1.2.1 ((((B9.out.keep ((Chg.refl [] w9).drew)).keep c11).keep c12).keep c13).1.2.2.1).mono ?_; rintro e w' ⟨g14, cc14, r14, rfl, h14, _, _, c14⟩)
                | (go_at_call 29; refine (rqimage_ok p bp9 o bq n v room es9 xs9 _ (((((B9.out.keep ((Chg.refl [] w9).drew)).keep c11).keep c12).keep c13).keep c14).2.1.1 (((((B9.out.keep ((Chg.refl [] w9).drew)).keep c11).keep c12).keep c13).keep c14).2.1.2.1).mono ?_; rintro e w' ⟨b15, cc15, rfl, s15, c15⟩)
                | (go_at_call 27; (with_reducible refine (lines_same g14 0 b15 0 n cc14 cc15 (over xs9 es9) _ ((Sl.of_bk h14 HSX.out).chg c15 (by simp)) s15 (by have := N64.out; omega)).mono ?_); rintro e w' ⟨rfl, c16⟩)
                | (go_at_call 30; refine (image_ok g b n v xs9 _ (((((((B9.out.keep ((Chg.refl [] w9).drew)).keep c11).keep c12).keep c13).keep c14).keep c15).keep c16).1.2.2.1).mono ?_; rintro e w' ⟨g17, cc17, r17, rfl, h17, _, _, c17⟩)
                | (go_at_call 27; (with_reducible refine (lines_same g17 0 bq 0 n cc17 cq9 xs9 _ (Sl.of_bk h17 HS9.out) (((((((((B9.out.keep ((Chg.refl [] w9).drew)).keep c11).keep c12).keep c13).keep c14).keep c15).keep c16).keep c17).rsl) (by have := N64.out; omega)).mono ?_); rintro e w' ⟨rfl, c18⟩))
            all_goals
              have B10 := Lib.hid (((((((((B9.out.keep ((Chg.refl [] w9).drew)).keep c11).keep c12).keep c13).keep c14).keep c15).keep c16).keep c17).keep c18)
              clear c11 c12 c13 c14 c15 c16 c17 c18 hp9 ho9
              go_wp2_with fail
              go_roundg (N - (k + 1))
              case rel => exact ⟨k + 1, be9, bp9, es9, xs9, by omega, rfl, by go_num, B10.out⟩
              case measure => have := HGK.out; omega
        · obtain rfl : k = N := by omega
          have t1 : decide (k < k) = false := by simp
          go_wp2_with (go_at_call 8; refine (wakes_true _).mono ?_; rintro e w5 ⟨rfl, c5⟩; have C5 := Lib.hid c5; clear c5)
          go_ret
          exact ⟨rfl, S.out.1.1.trans C5.out⟩
    · refine (qnew_bad ⟨w0.heap.size + 1, 0, none⟩ ri w2 hroom).mono ?_
      rintro e w3 ⟨rfl, rfl⟩
      go_wp2_with fail
      refine (rqnew_bad ⟨w1.heap.size + 1, 0, none⟩ ri w2 hroom).mono ?_
      rintro e w3 ⟨rfl, rfl⟩
      go_wp2_with fail
      go_loop [13] (fun i => i = .int .i64 0) (fun _ => 0)
      case atStart => rfl
      case round =>
        subst hrel
        rcases Nat.eq_zero_or_pos N with hz | hz
        · have t1 : decide (0 < N) = false := by simp; omega
          go_wp2_with (go_at_call 8; refine (wakes_true _).mono ?_; rintro e w5 ⟨rfl, c5⟩; have C5 := Lib.hid c5; clear c5)
          go_ret
          exact ⟨rfl, C2.out.trans C5.out⟩
        · have t1 : decide (0 < N) = true := by simpa using hz
          go_wp2_with (go_at_call 8; refine (wakes_true _).mono ?_; rintro e w5 ⟨rfl, c5⟩; have C5 := Lib.hid c5; clear c5)
          go_ret
          exact ⟨rfl, C2.out.trans C5.out⟩
  · refine (new_bad ni vi w0 hgood).mono ?_
    rintro e w1 ⟨rfl, rfl⟩
    go_wp2_with fail
    refine (rnew_bad ni vi w0 hgood).mono ?_
    rintro e w1 ⟨rfl, rfl⟩
    go_wp2_with fail
    refine (qnew_nil ri w0).mono ?_
    rintro e w1 ⟨rfl, rfl⟩
    go_wp2_with fail
    refine (rqnew_nil ri w0).mono ?_
    rintro e w1 ⟨rfl, rfl⟩
    go_wp2_with fail
    go_loop [13] (fun i => i = .int .i64 0) (fun _ => 0)
    case atStart => rfl
    case round =>
      subst hrel
      rcases Nat.eq_zero_or_pos N with hz | hz
      · have t1 : decide (0 < N) = false := by simp; omega
        go_wp2_with (go_at_call 8; refine (wakes_true _).mono ?_; rintro e w5 ⟨rfl, c5⟩; have C5 := Lib.hid c5; clear c5)
        go_ret
        exact ⟨rfl, C0.out.trans C5.out⟩
      · have t1 : decide (0 < N) = true := by simpa using hz
        go_wp2_with (go_at_call 8; refine (wakes_true _).mono ?_; rintro e w5 ⟨rfl, c5⟩; have C5 := Lib.hid c5; clear c5)
        go_ret
        exact ⟨rfl, C0.out.trans C5.out⟩
end Go.Proofs.Ytaignekkhfjicaa
