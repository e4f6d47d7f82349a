/- WpqNone and WpqRoom, walked. No condition. -/
import Derived.Test.YtaignekkhfjicaaWpqw
namespace Go.Proofs.Ytaignekkhfjicaa
open Go.RowKit
set_option linter.unusedVariables false
theorem wideQStep : Wide Try.prog 42 10 := ⟨⟨_, Try.underlying42, by rfl⟩, by kernel_rfl⟩
theorem loadQStep (x : Value) : Instr.loadAt 42 x = loadS 42 10 x := rfl
theorem storeQStep (x y : Value) : Instr.storeAt 42 x y = storeS 42 10 x y := rfl
attribute [local go_sem ↓] append_appS copy_copS clear_clrS make_mkS cell_row frozen_row loadLine storeLine loadEnt storeEnt loadREnt storeREnt loadQStep storeQStep heap_drew heap_drewN heap_alloc heap_past heap_setCell heap_putRow vs_get entc_pos
attribute [local go_sem] rowCell_some rowFrozen_some rowHas_some rowIn_some rowPart_full rowPart_lit rowPut_full rowPut_lit rowSet_some size_putRow vs_size vs_one wideLine wideEnt wideREnt wideQStep run_loadS run_storeS run_appS run_copS run_clrS run_mkS loadW_at storeW_at fit_all fit_le one_int one_bool one_pointer one_slice allOne_list putRow_new ne_size1 ne_size2 ne_size3 ne_size4 zero8_length lines_nil line_eq lit8 entc_size entc_one entc_part entc_in entc_made fold_ent fold_entc fold_vs vs_set
attribute [local simp ↓] heap_drew heap_drewN heap_alloc heap_past heap_setCell heap_putRow
attribute [local simp] rowCell_some rowFrozen_some rowHas_some rowIn_some rowPart_full rowPart_lit rowPut_full rowPut_lit rowSet_some size_putRow vs_size fit_all putRow_new ne_size1 ne_size2 ne_size3 ne_size4 zero8_length entc_size


theorem qnone_any (k l a0 a1 a2 a3 a4 a5 a6 a7 room : Int) (W : World) :
    Calls Try.prog 5 #[.agg #[.int .i64 k, .int .i64 l, .int .u64 a0, .int .u64 a1, .int .u64 a2, .int .u64 a3, .int .u64 a4, .int .u64 a5, .int .u64 a6, .int .u64 a7], .int .i64 room] W fun e w' => e = .returned (.bool true) ∧ Chg [] W w' := by
  go_enter Try.func5, Try.ntmps5
  go_wp2_with fail
  have hx0 : (W.alloc (.cells #[.int .i64 k, .int .i64 l, .int .u64 a0, .int .u64 a1, .int .u64 a2, .int .u64 a3, .int .u64 a4, .int .u64 a5, .int .u64 a6, .int .u64 a7] 42)).heap[W.heap.size]? = some (.cells #[.int .i64 k, .int .i64 l, .int .u64 a0, .int .u64 a1, .int .u64 a2, .int .u64 a3, .int .u64 a4, .int .u64 a5, .int .u64 a6, .int .u64 a7] 42 (0, 0)) := by simp
  have HC0 := Lib.hid ((Chg.refl [] W).alloc (.cells #[.int .i64 k, .int .i64 l, .int .u64 a0, .int .u64 a1, .int .u64 a2, .int .u64 a3, .int .u64 a4, .int .u64 a5, .int .u64 a6, .int .u64 a7] 42))
  generalize W.alloc (.cells #[.int .i64 k, .int .i64 l, .int .u64 a0, .int .u64 a1, .int .u64 a2, .int .u64 a3, .int .u64 a4, .int .u64 a5, .int .u64 a6, .int .u64 a7] 42) = w0 at hx0 HC0 ⊢
  have ho := old hx0
  refine (qnew_nil room w0).mono ?_
  rintro e w1 ⟨rfl, rfl⟩
  go_wp2_with fail
  refine (qfail_nil w0).mono ?_
  rintro e w1 ⟨rfl, rfl⟩
  go_wp2_with fail
  refine (qread_nil _ w0).mono ?_
  rintro e w1 ⟨rfl, c1⟩
  have hx1 := c1.keep hx0 (by simp)
  have C1 := Lib.hid c1
  have ho1 := old hx1
  have he := fun W => line_eq zero8 [0, 0, 0, 0, 0, 0, 0, 0] rfl rfl W
  clear c1 hx0 ho
  go_wp2_with fail
  refine (push_nil _ [a0, a1, a2, a3, a4, a5, a6, a7] rfl _).mono ?_
  rintro e w2 ⟨rfl, c2⟩
  have hx2 := c2.keep (k := W.heap.size) (x := .cells #[.int .i64 k, .int .i64 l, .int .u64 a0, .int .u64 a1, .int .u64 a2, .int .u64 a3, .int .u64 a4, .int .u64 a5, .int .u64 a6, .int .u64 a7] 42) (by simp [*]) (by simp)
  have C2 := Lib.hid c2
  clear c2
  go_wp2_with (first
    | (go_at_call 17; refine (drain_nil _ _).mono ?_; rintro e w' ⟨rfl, rfl⟩)
    | (go_at_call 23; refine (qlen_nil _).mono ?_; rintro e w' ⟨rfl, rfl⟩)
    | (go_at_call 25; refine (qlines_nil _).mono ?_; rintro e w' ⟨rfl, rfl⟩)
    | (go_at_call 28; refine (qimage_nil _).mono ?_; rintro e w' ⟨rfl, rfl⟩)
    | (go_at_call 8; refine (wakes_true _).mono ?_; rintro e w3 ⟨rfl, c3⟩; have C3 := Lib.hid c3; clear c3))
  go_ret
  exact ⟨rfl, HC0.out.trans (((C1.out.alloc _).trans C2.out).trans C3.out)⟩

/-- The entries of WpqRoom's first loop. -/
def roomEnt (v : Int) (j : Nat) : Ent := ⟨1 + j % 3, [v, 0, 0, 0, 0, 0, 0, 0], rfl⟩
def roomEs (v : Int) (k : Nat) : List Ent := (List.range k).map (roomEnt v)
theorem roomEs_len (v : Int) (k : Nat) : (roomEs v k).length = k := by simp [roomEs]
theorem roomEs_succ (v : Int) (k : Nat) : roomEs v k ++ [roomEnt v k] = roomEs v (k + 1) := by simp [roomEs, List.range_succ]
theorem roomEs_first (v : Int) (k : Nat) (h : 0 < k) : (roomEs v k)[0]? = some (roomEnt v 0) := by simp [roomEs, h]
theorem qroom_any (n v : Int) (n0 : 0 ≤ n) (n1 : n ≤ 255) (v0 : 0 ≤ v) (v1 : v ≤ 255) (W : World) :
    Calls Try.prog 7 #[.int .u8 n, .int .u8 v] W fun e w' => e = .returned (.bool true) ∧ Chg [] W w' := by
  obtain ⟨K, hK⟩ : ∃ K : Nat, 1 + n % 16 = (K : Int) := ⟨(1 + n % 16).toNat, by omega⟩
  have K1 : 1 ≤ K := by omega
  have K16 : K ≤ 16 := by omega
  have g16 : (K : Int) ≤ 16 := by omega
  have g1 : (1 : Int) ≤ (K : Int) := by omega
  go_enter Try.func7, Try.ntmps7
  go_wp2_with fail
  refine (new_ok 4 1 W (by omega) (by omega) (by omega) (by omega)).mono ?_
  rintro e w1 ⟨rfl, c1, d1, z1⟩
  have D1 := Lib.hid d1
  have C1 := Lib.hid c1
  clear d1 c1 z1
  go_wp2_with fail
  refine (sys_new W 4 1 K _ _ _ _ C1.out D1.out (by omega) (by omega) K1 K16).mono ?_
  rintro e w2 ⟨q, rfl, s2, _, _⟩
  have S2 := Lib.hid s2
  have HK := Lib.hid hK
  clear s2 hK
  go_wp2_with fail
  go_loopw [10] (fun i wr => ∃ (k be : Nat), k ≤ K ∧ i = .int .i64 k ∧ Sys W wr q be (W.heap.size + 1) W.heap.size 4 1 K (roomEs v k) (List.replicate (4 * 8) 0)) (fun i _ => K - (intOf i).toNat)
  case atStart => exact ⟨0, q, by omega, rfl, S2.out⟩
  case round =>
    obtain ⟨k, be, hk, rfl, hs⟩ := hrel
    have S := Lib.hid hs
    clear hs
    by_cases hlt : k < K
    · have t1 : decide (k < K) = true := by simpa using hlt
      have g0 : (0 : Int) ≤ (k : Int) := by omega
      have g2 : (k : Int) ≤ 16 := by omega
      go_wp2_with fail
      rw [show (1 + (k : Int) % 3) = ((roomEnt v k).pos : Int) by show _ = ((1 + k % 3 : Nat) : Int); omega]
      refine (sys_push S.out (roomEnt v k) (by show 1 + k % 3 < 4; omega) (by rw [roomEs_len]; exact hlt)).mono ?_
      rintro e w3 ⟨rfl, be3, s3, _, _⟩
      rw [roomEs_succ] at s3
      have S3 := Lib.hid s3
      clear s3
      go_wp2_with fail
      go_roundw
      case rel => exact ⟨k + 1, be3, by omega, by go_num, S3.out⟩
      case measure => simp [intOf]; omega
    · obtain rfl : k = K := by omega
      go_wp2_with fail
      refine (qimage_ok q be _ _ 4 1 k _ _ _ S.out.2.1 S.out.2.2.1).mono ?_
      rintro e w3 ⟨g1', cap1, r1, rfl, h1, h2, h3, c3⟩
      have S3 := Lib.hid (S.out.keep c3)
      have H1 := Lib.hid (Sl.of_bk h1 S.out.over)
      have HL := Lib.hid (roomEs_len v k)
      clear h1 h2 h3 c3
      go_wp2_with fail
      refine (push_full q _ _ 4 k _ 1 [99, 0, 0, 0, 0, 0, 0, 0] _ S3.out.2.1 (by decide) (by rw [HL.out]; exact Nat.le_refl _)).mono ?_
      rintro e w4 ⟨rfl, c4⟩
      have S4 := Lib.hid (S3.out.keep c4)
      have H4 := Lib.hid (H1.out.chg c4 (by simp))
      clear c4
      go_wp2_with fail
      refine (qlen_ok q _ _ 4 k _ _ S4.out.2.1).mono ?_
      rintro e w5 ⟨rfl, rfl⟩
      rw [HL.out]
      have t9 : ((k : Int) != (k : Int)) = false := by simp
      go_wp2_with fail
      refine (qimage_ok q be _ _ 4 1 k _ _ _ S4.out.2.1 S4.out.2.2.1).mono ?_
      rintro e w6 ⟨g2', cap2, r2, rfl, h1, h2, h3, c6⟩
      have S6 := Lib.hid (S4.out.keep c6)
      have H6 := Lib.hid (H4.out.chg c6 (by simp))
      have I6 := Lib.hid (Sl.of_bk h1 S.out.over)
      clear h1 h2 h3 c6
      go_wp2_with fail
      refine (lines_same _ _ _ _ 4 _ _ _ _ I6.out H6.out (by omega)).mono ?_
      rintro e w7 ⟨rfl, c7⟩
      have S7 := Lib.hid (S6.out.keep c7)
      clear c7
      go_wp2_with fail
      refine (sys_drain S7.out (roomEnt v 0) 0 (roomEs_first v k (by omega)) (by simp)).mono ?_
      rintro e w8 ⟨rfl, be8, s8, _, _⟩
      have S8 := Lib.hid s8
      clear s8
      have HE := Lib.hid (show ((roomEs v k).eraseIdx 0).length = k - 1 by rw [List.length_eraseIdx, HL.out, if_pos (by omega)])
      go_wp2_with fail
      refine (sys_push S8.out ⟨2, [98, 0, 0, 0, 0, 0, 0, 0], rfl⟩ (by show 2 < 4; omega) (by rw [HE.out]; omega)).mono ?_
      rintro e w9 ⟨rfl, be9, s9, _, _⟩
      have S9 := Lib.hid s9
      clear s9
      go_wp2_with fail
      refine (qlen_ok q _ _ 4 k _ _ S9.out.2.1).mono ?_
      rintro e w10 ⟨rfl, rfl⟩
      rw [List.length_append, HE.out, show k - 1 + [(⟨2, [98, 0, 0, 0, 0, 0, 0, 0], rfl⟩ : Ent)].length = k by simp; omega]
      have t10 : ((k : Int) == (k : Int)) = true := by simp
      go_wp2_with (go_at_call 8; refine (wakes_true _).mono ?_; rintro e w3 ⟨rfl, c11⟩; have C11 := Lib.hid c11; clear c11)
      go_ret
      exact ⟨rfl, S9.out.1.trans C11.out⟩
end Go.Proofs.Ytaignekkhfjicaa
