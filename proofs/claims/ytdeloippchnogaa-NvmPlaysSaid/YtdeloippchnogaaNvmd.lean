/- The statements of layer 2, walked. No condition. -/
import Derived.Test.YtdeloippchnogaaNvmc
namespace Go.Proofs.Ytdeloippchnogaa
open Go.RowKit
set_option linter.unusedVariables false
theorem wideStep : Wide Try.prog 37 11 := ⟨⟨_, Try.underlying37, by rfl⟩, by kernel_rfl⟩
theorem loadStep (x : Value) : Instr.loadAt 37 x = loadS 37 11 x := rfl
theorem storeStep (x y : Value) : Instr.storeAt 37 x y = storeS 37 11 x y := rfl
attribute [local go_sem ↓] append_appS copy_copS clear_clrS make_mkS cell_row frozen_row loadLine storeLine heap_drew heap_drewN heap_alloc heap_past heap_setCell heap_putRow
attribute [local go_sem] rowCell_some rowFrozen_some rowHas_some rowIn_some rowPart_full rowPart_lit rowPut_full rowPut_lit rowSet_some size_putRow vs_size vs_one wideLine run_loadS run_storeS run_appS run_copS run_clrS run_mkS loadW_at storeW_at fit_all one_int one_bool one_pointer one_slice allOne_list putRow_new ne_size1 ne_size2 ne_size3 ne_size4 zero8_length lines_nil
attribute [local simp ↓] heap_drew heap_drewN heap_alloc heap_past heap_setCell heap_putRow
attribute [local simp] rowCell_some rowFrozen_some rowHas_some rowIn_some rowPart_full rowPart_lit rowPut_full rowPut_lit rowSet_some size_putRow vs_size fit_all putRow_new ne_size1 ne_size2 ne_size3 ne_size4 zero8_length


attribute [local go_sem ↓] vs_get loadStep storeStep
attribute [local go_sem] line_eq lit8 wideStep

theorem none_any (k l a0 a1 a2 a3 a4 a5 a6 a7 : Int) (A : Option Addr) (n c : Nat) (W : World) :
    Calls Try.prog 5 #[.agg #[.int .i64 k, .int .i64 l, .int .u64 a0, .int .u64 a1, .int .u64 a2, .int .u64 a3, .int .u64 a4, .int .u64 a5, .int .u64 a6, .int .u64 a7, .slice A n c]] W fun e w' => e = .returned (.bool true) ∧ Chg [] W w' := by
  go_enter Try.func5, Try.ntmps5
  go_wp2_with fail
  have hx0 : ((W.alloc (.cells #[.int .i64 k, .int .i64 l, .int .u64 a0, .int .u64 a1, .int .u64 a2, .int .u64 a3, .int .u64 a4, .int .u64 a5, .int .u64 a6, .int .u64 a7, .slice A n c] 37)).alloc (.cells #[.int .i64 k, .int .i64 l, .int .u64 a0, .int .u64 a1, .int .u64 a2, .int .u64 a3, .int .u64 a4, .int .u64 a5, .int .u64 a6, .int .u64 a7, .slice A n c] 37)).heap[W.heap.size]? = some (.cells #[.int .i64 k, .int .i64 l, .int .u64 a0, .int .u64 a1, .int .u64 a2, .int .u64 a3, .int .u64 a4, .int .u64 a5, .int .u64 a6, .int .u64 a7, .slice A n c] 37 (0, 0)) := by simp
  have hx1 : ((W.alloc (.cells #[.int .i64 k, .int .i64 l, .int .u64 a0, .int .u64 a1, .int .u64 a2, .int .u64 a3, .int .u64 a4, .int .u64 a5, .int .u64 a6, .int .u64 a7, .slice A n c] 37)).alloc (.cells #[.int .i64 k, .int .i64 l, .int .u64 a0, .int .u64 a1, .int .u64 a2, .int .u64 a3, .int .u64 a4, .int .u64 a5, .int .u64 a6, .int .u64 a7, .slice A n c] 37)).heap[W.heap.size + 1]? = some (.cells #[.int .i64 k, .int .i64 l, .int .u64 a0, .int .u64 a1, .int .u64 a2, .int .u64 a3, .int .u64 a4, .int .u64 a5, .int .u64 a6, .int .u64 a7, .slice A n c] 37 (0, 0)) := by simp
  have HC0 := Lib.hid (((Chg.refl [] W).alloc (.cells #[.int .i64 k, .int .i64 l, .int .u64 a0, .int .u64 a1, .int .u64 a2, .int .u64 a3, .int .u64 a4, .int .u64 a5, .int .u64 a6, .int .u64 a7, .slice A n c] 37)).alloc (.cells #[.int .i64 k, .int .i64 l, .int .u64 a0, .int .u64 a1, .int .u64 a2, .int .u64 a3, .int .u64 a4, .int .u64 a5, .int .u64 a6, .int .u64 a7, .slice A n c] 37))
  generalize (W.alloc (.cells #[.int .i64 k, .int .i64 l, .int .u64 a0, .int .u64 a1, .int .u64 a2, .int .u64 a3, .int .u64 a4, .int .u64 a5, .int .u64 a6, .int .u64 a7, .slice A n c] 37)).alloc (.cells #[.int .i64 k, .int .i64 l, .int .u64 a0, .int .u64 a1, .int .u64 a2, .int .u64 a3, .int .u64 a4, .int .u64 a5, .int .u64 a6, .int .u64 a7, .slice A n c] 37) = w0 at hx0 hx1 HC0 ⊢
  have him : Imgs #[.int .i64 k, .int .i64 l, .int .u64 a0, .int .u64 a1, .int .u64 a2, .int .u64 a3, .int .u64 a4, .int .u64 a5, .int .u64 a6, .int .u64 a7, .slice A n c] 0 1 (fun _ => n) := by
    intro i hi
    obtain rfl : i = 0 := by omega
    exact ⟨A, c, rfl⟩
  refine (fair_some (W.heap.size + 1) 0 1 1 #[.int .i64 k, .int .i64 l, .int .u64 a0, .int .u64 a1, .int .u64 a2, .int .u64 a3, .int .u64 a4, .int .u64 a5, .int .u64 a6, .int .u64 a7, .slice A n c] _ 37 (0, 0) w0 hx1 him (by unfold maxLen; omega)).mono ?_
  rintro e w1 ⟨bb, rfl, rfl, _⟩
  clear hx1 him
  have ho := old hx0
  cases bb
  · go_wp2_with (go_at_call 8; refine (wakes_true _).mono ?_; rintro e w2 ⟨rfl, c2⟩)
    go_ret
    exact ⟨rfl, HC0.out.trans c2⟩
  · go_wp2_with fail
    refine (fail_nil _).mono ?_
    rintro e w1 ⟨rfl, rfl⟩
    go_wp2_with fail
    refine (read_nil _ _).mono ?_
    rintro e w1 ⟨rfl, c1⟩
    have hx1 := c1.keep hx0 (by simp)
    have C1 := Lib.hid c1
    have ho1 := old hx1
    have he := fun W => line_eq zero8 [0, 0, 0, 0, 0, 0, 0, 0] rfl rfl W
    clear c1 hx0 ho
    go_wp2_with fail
    refine (write_nil _ [a0, a1, a2, a3, a4, a5, a6, a7] _ rfl).mono ?_
    rintro e w2 ⟨rfl, c2⟩
    have hx2 := c2.keep (k := W.heap.size) (x := .cells #[.int .i64 k, .int .i64 l, .int .u64 a0, .int .u64 a1, .int .u64 a2, .int .u64 a3, .int .u64 a4, .int .u64 a5, .int .u64 a6, .int .u64 a7, .slice A n c] 37) (by simp [*]) (by simp)
    have C2 := Lib.hid c2
    clear c2
    go_wp2_with (first
      | (go_at_call 20; refine (image_nil _).mono ?_; rintro e w' ⟨rfl, rfl⟩)
      | (go_at_call 17; refine (restore_nil _ _ _ _).mono ?_; rintro e w' ⟨rfl, rfl⟩)
      | (go_at_call 8; refine (wakes_true _).mono ?_; rintro e w3 ⟨rfl, c3⟩; have C3 := Lib.hid c3; clear c3))
    go_ret
    exact ⟨rfl, HC0.out.trans (((C1.out.alloc _).trans C2.out).trans C3.out)⟩

/-- What stands behind the first loop of NvmFails. -/
theorem fails_any (n v : Int) (n0 : 0 ≤ n) (n1 : n ≤ 255) (v0 : 0 ≤ v) (v1 : v ≤ 255) (A : Option Addr) (m c : Nat) (xs : List Int) (W : World) (hs : Sl W 8 A m (xs.map (Value.int .u64))) (hm : m ≤ maxLen) :
    Calls Try.prog 4 #[.int .u8 n, .int .u8 v, .slice A m c] W fun e w' => e = .returned (.bool true) ∧ Chg [] W w' := by
  unfold maxLen at hm
  obtain ⟨N, hN⟩ : ∃ N : Nat, 2 + n % 63 = (N : Int) := ⟨(2 + n % 63).toNat, by omega⟩
  have N2 : 2 ≤ N := by omega
  have N64 : N ≤ 64 := by omega
  obtain ⟨V, hV⟩ : ∃ V : Nat, 1 + v % ((N : Int) - 1) = (V : Int) := ⟨(1 + v % ((N : Int) - 1)).toNat, by
    have := Int.emod_nonneg v (b := (N : Int) - 1) (by omega)
    omega⟩
  have VN : V < N := by
    have := Int.emod_lt_of_pos v (b := (N : Int) - 1) (by omega)
    omega
  have V1 : 1 ≤ V := by
    have := Int.emod_nonneg v (b := (N : Int) - 1) (by omega)
    omega
  have HS := Lib.hid hs
  have N64' : (N : Int) ≤ 64 := by omega
  have N2' : (2 : Int) ≤ (N : Int) := by omega
  have HX := Lib.hid (show xs.length = m * 8 by simpa using hs.1)
  clear hs
  go_enter Try.func4, Try.ntmps4
  go_wp2_with fail
  refine (new_ok N V W N2 N64 V1 VN).mono ?_
  rintro e w1 ⟨rfl, c1, d1, z1⟩
  have D1 := Lib.hid d1
  have C1 := Lib.hid c1
  have Z1 := Lib.hid z1
  clear d1 c1 z1
  have HN := Lib.hid hN
  have HV := Lib.hid hV
  by_cases h100 : 100 < m
  · have t1 : decide (100 < m) = true := by simpa using h100
    go_wp2_with (go_at_call 8; refine (wakes_true _).mono ?_; rintro e w2 ⟨rfl, c2⟩)
    go_ret
    exact ⟨rfl, C1.out.trans c2⟩
  · have t1 : decide (100 < m) = false := by simpa using h100
    go_wp2_with fail
    go_loopw [11] (fun i wr => ∃ k : Nat, k ≤ m ∧ k ≤ N ∧ i = .int .i64 k ∧ Chg [] W wr ∧ Dev wr (W.heap.size + 1) W.heap.size N V (filled xs N k)) (fun i _ => m - (intOf i).toNat)
    case atStart => exact ⟨0, by omega, by omega, rfl, C1.out, by rw [filled_zero]; exact D1.out⟩
    case round =>
      obtain ⟨k, hk1, hk2, rfl, hc, hd⟩ := hrel
      by_cases hlt : k < m ∧ k < N
      · obtain ⟨b0, o0, rfl⟩ := HS.out.addr (by omega)
        obtain ⟨cs, t, f, hb, hi, hp, hl⟩ := (HS.out.chg hc (by simp)).line hlt.1
        have g1 : (k : Int) < (m : Int) := by omega
        have g0 : (0 : Int) ≤ (k : Int) := by omega
        have g2 : (k : Int) < (N : Int) := by omega
        have t2 : decide (k < m) = true := by simpa using hlt.1
        have t3 : decide (k < N) = true := by simpa using hlt.2
        have hf := Lib.hid (filled_succ xs N k (by rw [HX.out]; omega) hlt.2)
        go_wp2_with fail
        refine (write_ok _ _ N V k (ln xs k) _ _ hd hlt.2 hl).mono ?_
        rintro e w2 ⟨rfl, c2, d2⟩
        go_wp2_with fail
        go_roundw
        case rel => exact ⟨k + 1, by omega, by omega, by go_num, hc.trans' c2 (by simp), by rw [← hf.out]; exact d2⟩
        case measure => simp [intOf]; omega
      · have hex : (decide (k < m) = true ∧ decide (k < N) = false) ∨ decide (k < m) = false := by
          by_cases h1 : k < m
          · exact .inl ⟨by simpa using h1, by simp; omega⟩
          · exact .inr (by simpa using h1)
        have HD := Lib.hid hd
        have HC := Lib.hid hc
        have hkk := Lib.hid (show ∀ i, i < N → i < m → i < k from fun i h1 h2 => by omega)
        have hkx := Lib.hid (show k * 8 ≤ xs.length by rw [HX.out]; omega)
        clear hd hc hlt
        rcases hex with ⟨t2, t3⟩ | t2
        all_goals
          go_wp2_with fail
          refine (image_ok _ _ N V _ _ HD.out).mono ?_
          rintro e w2 ⟨ga, ca, ra, rfl, a1, a2, a3, a4⟩
          have hga : W.heap.size < ga := by
            have := (old HD.out.2.1).lt
            omega
          have HD2 := Lib.hid (HD.out.keep a4 (by simp) (by simp))
          have A2 := Lib.hid a2
          have C2 := Lib.hid (HC.out.trans a4)
          clear a2 a4 a3
          go_wp2_with fail
          refine (fail_ok _ _ N V _ _ HD2.out).mono ?_
          rintro e w3 ⟨rfl, c3, d3⟩
          have hw := c3.keep a1 (by simp; omega)
          have D3 := Lib.hid d3
          have C3 := Lib.hid (C2.out.trans' c3 (by simp))
          clear c3 d3 a1
          go_wp2_with fail
          refine (image_ok _ _ N V _ _ D3.out).mono ?_
          rintro e w4 ⟨gn, cn, rn, rfl, b1, b2, b3, b4⟩
          have hwas := Lib.hid (b4.keep hw (by simp))
          have hnow := Lib.hid b1
          have D4 := Lib.hid (D3.out.keep b4 (by simp) (by simp))
          have C4 := Lib.hid (C3.out.trans b4)
          have hne := Lib.hid (show ga ≠ gn from by have := (old hw).lt; omega)
          clear b1 b2 b3 b4 hw
          go_wp2_with fail
          have hfl := Lib.hid (filled_length xs N k hkx.out hk2)
          go_loopw [14] (fun i wr => ∃ j : Nat, j ≤ N ∧ i = .int .i64 j ∧ Chg [] w4 wr) (fun i _ => N - (intOf i).toNat)
          case atStart => exact ⟨0, by omega, rfl, Chg.refl _ _⟩
          case round =>
            obtain ⟨j, hj, rfl, hcj⟩ := hrel
            by_cases hjn : j < N
            · have fit : Fit (j * 8) 8 (filled xs N k).length := by rw [hfl.out]; unfold Fit; omega
              have fit2 : Fit (j * 8) 8 (forget (filled xs N k) V).length := by rw [forget_length _ _ (by rw [hfl.out]; omega)]; exact fit
              have q1 := hcj.keep hwas.out (by simp)
              have q2 := hcj.keep hnow.out (by simp)
              have o1 := old q1
              have o2 := old q2
              have ri1 := rowIn_bk fit ra 34 (0, 0)
              have ri2 := rowIn_bk fit2 rn 34 (0, 0)
              have rp1 := rowPart_bk fit ra 34 (0, 0)
              have rp2 := rowPart_bk fit2 rn 34 (0, 0)
              have l1 := ln_length _ _ fit
              have g1 : (j : Int) < (N : Int) := by omega
              have g0 : (0 : Int) ≤ (j : Int) := by omega
              by_cases hjv : j < V
              · have t5 : decide (j < V) = true := by simpa using hjv
                rw [ln_forget_lt _ _ _ hjv (by rw [hfl.out]; omega)] at rp2
                by_cases hjm : j < m
                · have t6 : decide (j < m) = true := by simpa using hjm
                  obtain ⟨b0, o0, rfl⟩ := HS.out.addr (by omega)
                  obtain ⟨cs, t, f, hb, hi, hp, hl⟩ := (HS.out.chg (C4.out.trans hcj) (by simp)).line hjm
                  have ob := old hb
                  have g3 : (j : Int) < (m : Int) := by omega
                  rw [filled_ln _ _ _ _ hkx.out (hkk.out j hjn hjm)] at rp1
                  clear fit fit2 l1
                  go_wp2_with fail
                  go_quiet (fail)
                  go_wp2_with fail
                  go_roundw
                  case rel => exact ⟨j + 1, by omega, by go_num, ((hcj.alloc _).drewN _)⟩
                  case measure => simp [intOf]; omega
                · have t6 : decide (j < m) = false := by simpa using hjm
                  clear fit fit2
                  go_wp2_with fail
                  go_quiet (fail)
                  go_wp2_with fail
                  go_roundw
                  case rel => exact ⟨j + 1, by omega, by go_num, ((hcj.alloc _).drewN _)⟩
                  case measure => simp [intOf]; omega
              · have t5 : decide (j < V) = false := by simpa using hjv
                rw [ln_forget_ge _ _ _ (by omega) (by rw [hfl.out]; omega)] at rp2
                by_cases hjm : j < m
                · have t6 : decide (j < m) = true := by simpa using hjm
                  obtain ⟨b0, o0, rfl⟩ := HS.out.addr (by omega)
                  obtain ⟨cs, t, f, hb, hi, hp, hl⟩ := (HS.out.chg (C4.out.trans hcj) (by simp)).line hjm
                  have ob := old hb
                  have g3 : (j : Int) < (m : Int) := by omega
                  rw [filled_ln _ _ _ _ hkx.out (hkk.out j hjn hjm)] at rp1 rp2
                  clear fit fit2 l1
                  go_wp2_with fail
                  go_quiet (fail)
                  go_wp2_with fail
                  go_roundw
                  case rel => exact ⟨j + 1, by omega, by go_num, ((hcj.alloc _).drewN _)⟩
                  case measure => simp [intOf]; omega
                · have t6 : decide (j < m) = false := by simpa using hjm
                  clear fit fit2
                  go_wp2_with fail
                  go_quiet (fail)
                  go_wp2_with fail
                  go_roundw
                  case rel => exact ⟨j + 1, by omega, by go_num, ((hcj.alloc _).drewN _)⟩
                  case measure => simp [intOf]; omega
            · have : j = N := by omega
              subst this
              have HJ := Lib.hid hcj
              have D5 := Lib.hid (D4.out.keep hcj (by simp) (by simp))
              have q1 := Lib.hid (hcj.keep hwas.out (by simp))
              clear hcj
              go_wp2_with fail
              refine (restore_ok _ _ _ _ _ _ _ ca _ D5.out (Sl.of_bk q1.out hfl.out)).mono ?_
              rintro e w5 ⟨rfl, c5, d5⟩
              have D6 := Lib.hid d5
              have q2 := Lib.hid (c5.keep q1.out (by simp; omega))
              have C5 := Lib.hid c5
              clear c5 d5
              go_wp2_with fail
              refine (image_ok _ _ _ V _ _ D6.out).mono ?_
              rintro e w6 ⟨gi, ci, ri, rfl, b1, b2, b3, b4⟩
              have B4 := Lib.hid b4
              have s1 := Lib.hid (Sl.of_bk b1 hfl.out)
              have s2 := Lib.hid (Sl.of_bk (b4.keep q2.out (by simp)) hfl.out)
              clear b1 b2 b3 b4
              go_wp2_with fail
              refine (lines_same _ _ _ _ _ _ _ _ _ s1.out s2.out (by omega)).mono ?_
              rintro e w7 ⟨rfl, c7⟩
              have C7 := Lib.hid c7
              clear c7
              go_wp2_with (go_at_call 8; refine (wakes_true _).mono ?_; rintro e w8 ⟨rfl, c8⟩; have C8 := Lib.hid c8; clear c8)
              go_ret
              exact ⟨rfl, ((((C4.out.trans HJ.out).trans' C5.out (by simp)).trans B4.out).trans C7.out).trans C8.out⟩
end Go.Proofs.Ytdeloippchnogaa
