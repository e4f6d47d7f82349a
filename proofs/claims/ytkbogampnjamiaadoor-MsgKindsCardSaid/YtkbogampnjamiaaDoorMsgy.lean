/- MsgQueues, walked. No condition. -/
import Derived.Test.YtkbogampnjamiaaDoorMsgs
namespace Go.Proofs.YtkbogampnjamiaaDoor
open Go.RowKit
set_option linter.unusedVariables false
set_option maxHeartbeats 1000000
attribute [local go_sem ↓] append_appS copy_copS clear_clrS make_mkS slice_slS cell_row frozen_row loadLine storeLine loadMsg storeMsg loadHas storeHas heap_drew heap_drewN heap_alloc heap_past heap_setCell heap_putRow vs_get msc_kd msc_li msc_di msc_ke
attribute [local go_sem] rowCell_some rowFrozen_some rowHas_some rowIn_some rowPart_full rowPart_lit rowPut_full rowPut_lit rowSet_some size_putRow vs_size vs_one wideLine wideMsg wideHas run_loadS run_storeS run_appS run_copS run_clrS run_mkS run_slS loadW_at storeW_at fit_all fit_le one_int one_bool one_pointer one_slice allOne_list putRow_new ne_size1 ne_size2 ne_size3 ne_size4 zero8_length line_eq lit8 msc_size msc_one msc_part msc_in fold_msc
attribute [local simp ↓] heap_drew heap_drewN heap_alloc heap_past heap_setCell heap_putRow
attribute [local simp] rowCell_some rowFrozen_some rowHas_some rowIn_some rowPart_full rowPart_lit rowPut_full rowPut_lit rowSet_some size_putRow vs_size fit_all putRow_new ne_size1 ne_size2 ne_size3 ne_size4 zero8_length msc_size

attribute [local go_sem ↓] mlitZ msg_same msg_sameZ loadQS storeQS qsc_kd
attribute [local go_sem] wideQS qsc_size qsc_one qsc_m qsc_min
attribute [local simp] mlitZ

set_option maxRecDepth 100000 in
set_option maxHeartbeats 16000000 in
theorem mqueues_any (A : Option Addr) (N cN : Nat) (zs : List Value) (W : World) (ht : Tab W) (hA : Sl W 13 A N zs) (hN : N ≤ maxLen) (hk : ∀ i, i < N → AreKd W kQStep ((zs.drop (i * 13)).take 13)) :
    Calls Tryd.prog 4 #[.slice A N cN] W fun e w' => e = .returned (.bool true) ∧ Chg [] W w' := by
  unfold maxLen at hN
  have HT := Lib.hid ht
  have HA := Lib.hid hA
  have HK := Lib.hid hk
  clear hA hk ht
  by_cases h300 : 300 < N
  · have t0 : decide ((300 : Int) < (N : Int)) = true := by simp; omega
    go_enter Tryd.func4, Tryd.ntmps4
    try dsimp only [List.append]
    go_wp2_with (go_at_call 16; refine (mwakes _ HT.out).mono ?_; rintro e w5 ⟨rfl, c5⟩)
    go_ret
    exact ⟨rfl, c5⟩
  have t0 : decide ((300 : Int) < (N : Int)) = false := by simp; omega
  have hN' : N ≤ 300 := by omega
  have gN : (N : Int) ≤ 300 := by omega
  clear hN h300
  go_enter Tryd.func4, Tryd.ntmps4
  try dsimp only [List.append]
  go_wp2_with fail
  have Q0 := Lib.hid (Qu.new (Chg.refl [] W) HT.out)
  have V0 := Lib.hid (Hv.nil HT.out Q0.out.1 Q0.out.2.2.1 Q0.out.2.2.2.1)
  generalize W.alloc (.cells #[.slice none 0 0] 34) = w0 at Q0 V0 ⊢
  generalize W.heap.size = q at Q0 V0 ⊢
  go_loopw [5, 4] (fun i s4 wr => ∃ (k be bh cap : Nat) (B : Option Addr) (xs : List Ms), k ≤ N ∧ i = .int .i64 k ∧ s4 = .slice B xs.length cap ∧ Qu W wr q be xs ∧ Hv W wr q be bh B cap xs ∧ xs.length ≤ k) (fun i _ _ => N - (intOf i).toNat)
  case atStart => exact ⟨0, q, 0, 0, none, [], by omega, rfl, rfl, Q0.out, V0.out, by simp⟩
  case round =>
    obtain ⟨k, be, bh, cap, B, xs, hkN, rfl, rfl, hq, hv, hxk⟩ := hrel
    have Q := Lib.hid hq
    have V := Lib.hid hv
    clear hq hv
    have g0 : (0 : Int) ≤ (k : Int) := by omega
    by_cases hlt : k < N
    · have t1 : decide (k < N) = true := by simpa using hlt
      have g1 : (k : Int) < (N : Int) := by omega
      obtain ⟨ba, oa, rfl⟩ := HA.out.addr (by omega)
      obtain ⟨x, cs, t, f, hb, hi, hp⟩ := qstep_row HA.out hlt (HK.out k hlt)
      have hbr := Q.out.1.keep hb (by simp)
      have obr := old hbr
      have c3 := (Chg.refl [] wr).alloc (.cells (qsc x) 36)
      have Q3 := Lib.hid (Q.out.stay c3)
      have V3 := Lib.hid (V.out.stay c3 (by simp))
      have hx3 : (wr.alloc (.cells (qsc x) 36)).heap[wr.heap.size]? = some (.cells (qsc x) 36 (0, 0)) := by simp
      have hp6q : wr.heap.size ≠ q := by have := Q.out.oldq.lt; omega
      have hp6b : wr.heap.size ≠ be := by have := Q.out.olde.lt; omega
      have N6 := Lib.hid (show wr.heap.size ∉ [q, be] by simp; exact ⟨hp6q, hp6b⟩)
      clear hb c3 hp6q hp6b
      by_cases k0 : x.kd = 0
      · have tk : (x.kd == 0) = true := by simp [k0]
        clear k0
        have ox := old hx3
        go_wp2_with fail
        generalize wr.alloc (.cells (qsc x) 36) = w3 at hx3 Q3 V3 ⊢
        generalize wr.heap.size = p6 at hx3 N6 ⊢
        refine (mpush_any Q3.out x.m).mono ?_
        rintro e w4 ⟨rfl, b4, q4, c4, hb4⟩
        have hx4 := c4.keep hx3 N6.out
        have V4 := Lib.hid (V3.out.call c4 hb4)
        clear c4 hb4 hx3 Q3 V3 ox
        have ox4 := old hx4
        cases hg : mg x.m
        · have E1 := Lib.hid (show pushVal xs x.m = 11 by simp [pushVal, hg])
          have Q4 := Lib.hid (show Qu W w4 q b4 xs from (show pushXs xs x.m = xs by simp [pushXs, hg]) ▸ q4)
          have HG := Lib.hid hg
          clear q4 hg
          rw [E1.out]
          go_wp2_with fail
          refine (rgood_any x.m w4).mono ?_
          rintro e w5 ⟨rfl, c5⟩
          rw [HG.out]
          have Q9 := Lib.hid (Q4.out.stay c5)
          have V9 := Lib.hid (V4.out.stay c5 (by simp))
          clear c5 hx4 ox4 Q4 V4
          go_wp2_with fail
          refine (len_ok Q9.out).mono ?_
          rintro e w' ⟨rfl, rfl⟩
          have tn : (((xs.length : Nat) : Int) != ((xs.length : Nat) : Int)) = false := by simp
          try simp only [Int.natCast_add, Int.cast_ofNat_Int] at tn
          go_wp2_with fail
          refine (mall_ok Q9.out).mono ?_
          rintro e w8 ⟨A8, c8, rfl, s8, hc8⟩
          have S8 := Lib.hid s8
          have Q10 := Lib.hid (Q9.out.stay hc8)
          have V10 := Lib.hid (V9.out.stay hc8 (by simp))
          clear s8 hc8
          go_wp2_with fail
          refine (msgs_same A8 B (xs.length) c8 cap xs w8 S8.out V10.out.sl rfl (by omega)).mono ?_
          rintro e w9 ⟨rfl, hc9⟩
          have Q11 := Lib.hid (Q10.out.stay hc9)
          have V11 := Lib.hid (V10.out.stay hc9 (by simp))
          clear hc9
          go_wp2_with fail
          go_roundw
          case rel => exact ⟨k + 1, b4, bh, cap, B, xs, by omega, by go_num, rfl, Q11.out, V11.out, by omega⟩
          case measure => simp [intOf]; omega
        · have E1 := Lib.hid (show pushVal xs x.m = 0 by simp [pushVal, hg]; omega)
          have Q4 := Lib.hid (show Qu W w4 q b4 (xs ++ [x.m]) from (show pushXs xs x.m = xs ++ [x.m] by simp [pushXs, hg]; omega) ▸ q4)
          have HG := Lib.hid hg
          clear q4 hg
          rw [E1.out]
          go_wp2_with fail
          refine (rgood_any x.m w4).mono ?_
          rintro e w5 ⟨rfl, c5⟩
          rw [HG.out]
          have hx5 := c5.keep hx4 (by simp)
          have Q5 := Lib.hid (Q4.out.stay c5)
          have V5 := Lib.hid (V4.out.stay c5 (by simp))
          clear c5 hx4 ox4 Q4 V4
          have ox5 := old hx5
          obtain ⟨bh', cap', B', w6, happ, v6, q6⟩ := V5.out.app Q5.out HT.out Q5.out.1 x.m (by omega)
          have Q9 := Lib.hid q6
          have V9 := Lib.hid v6
          clear q6 v6 Q5 V5
          obtain ⟨ys, hys⟩ : ∃ ys, ys = xs ++ [x.m] := ⟨_, rfl⟩
          rw [← hys] at Q9 V9
          have HL := Lib.hid (show ys.length = xs.length + 1 by rw [hys]; simp)
          clear hys
          go_wp2_with fail
          refine (len_ok Q9.out).mono ?_
          rintro e w' ⟨rfl, rfl⟩
          rw [HL.out]
          have tn : (((xs.length + 1 : Nat) : Int) != ((xs.length + 1 : Nat) : Int)) = false := by simp
          try simp only [Int.natCast_add, Int.cast_ofNat_Int] at tn
          go_wp2_with fail
          refine (mall_ok Q9.out).mono ?_
          rintro e w8 ⟨A8, c8, rfl, s8, hc8⟩
          have S8 := Lib.hid s8
          have Q10 := Lib.hid (Q9.out.stay hc8)
          have V10 := Lib.hid (V9.out.stay hc8 (by simp))
          clear s8 hc8
          rw [HL.out]
          go_wp2_with fail
          refine (msgs_same A8 B' (xs.length + 1) c8 cap' ys w8 (HL.out ▸ S8.out) (HL.out ▸ V10.out.sl) HL.out.symm (by omega)).mono ?_
          rintro e w9 ⟨rfl, hc9⟩
          have Q11 := Lib.hid (Q10.out.stay hc9)
          have V11 := Lib.hid (V10.out.stay hc9 (by simp))
          clear hc9
          go_wp2_with fail
          go_roundw
          case rel => exact ⟨k + 1, b4, bh', cap', B', ys, by omega, by go_num, by rw [HL.out], Q11.out, V11.out, by rw [HL.out]; omega⟩
          case measure => simp [intOf]; omega
      have tk0 : (x.kd == 0) = false := by simpa using k0
      clear k0
      by_cases k1 : x.kd = 1
      · have tk : (x.kd == 1) = true := by simp [k1]
        clear k1
        have ox := old hx3
        go_wp2_with fail
        have c4 := (Chg.refl [] (wr.alloc (.cells (qsc x) 36))).alloc (.cells (msc msZ) 26)
        have hx4 := c4.keep hx3 (by simp)
        have hm4 : ((wr.alloc (.cells (qsc x) 36)).alloc (.cells (msc msZ) 26)).heap[wr.heap.size + 1]? = some (.cells (msc msZ) 26 (0, 0)) := by simp
        have Q4 := Lib.hid (Q3.out.stay c4)
        have V4 := Lib.hid (V3.out.stay c4 (by simp))
        have hp8q : wr.heap.size + 1 ≠ q := by have := Q.out.oldq.lt; omega
        have hp8b : wr.heap.size + 1 ≠ be := by have := Q.out.olde.lt; omega
        have N8 := Lib.hid (show wr.heap.size + 1 ∉ [q, be] by simp; exact ⟨hp8q, hp8b⟩)
        have hp8h : bh ≠ wr.heap.size + 1 := by have := V.out.2.2.2.2.lt; omega
        have HH := Lib.hid hp8h
        have hp86 : wr.heap.size ≠ wr.heap.size + 1 := by omega
        have hW8 := Lib.hid (show W.heap.size ≤ wr.heap.size + 1 by have := Q.out.1.size; omega)
        clear c4 hx3 Q3 V3 hp8q hp8b hp8h ox
        generalize (wr.alloc (.cells (qsc x) 36)).alloc (.cells (msc msZ) 26) = w4 at hx4 hm4 Q4 V4 ⊢
        generalize wr.heap.size + 1 = p8 at hm4 N8 HH hp86 hW8 ⊢
        generalize wr.heap.size = p6 at hx4 N6 hp86 ⊢
        have hp68 : p8 ≠ p6 := fun e => hp86 e.symm
        refine (mpop_ok Q4.out).mono ?_
        rintro e w5 ⟨rfl, b5, q5, c5, hb5⟩
        have hx5 := c5.keep hx4 N6.out
        have hm5 := c5.keep hm4 N8.out
        have V5 := Lib.hid (V4.out.call c5 hb5)
        have N9 := Lib.hid (show p8 ∉ [q, b5] by
          have h1 := N8.out
          have h2 := (old hm4).lt
          simp only [List.mem_cons, List.not_mem_nil, or_false, not_or] at h1 ⊢
          omega)
        have Q5 := Lib.hid q5
        clear c5 q5 hx4 hm4 Q4 V4 hb5
        have ox5 := old hx5
        have om5 := old hm5
        cases xs with
        | nil =>
          rw [headM_nil, show someB ([] : List Ms) = false from rfl]
          have HL := Lib.hid (show ([] : List Ms).length = 0 from rfl)
          have c6 := (Chg.refl [p8] w5).putRow p8 0 (msc msZ) (.inl (by simp))
          have Q6 := Lib.hid (show Qu W (putRow w5 p8 0 (msc msZ)) q b5 [] from Q5.out.keep c6 (by simp; exact hW8.out) (by have := N9.out; simp at this ⊢; omega) (by have := N9.out; simp at this ⊢; omega))
          have V6 := Lib.hid (V5.out.stay c6 (by simpa using HH.out))
          have hx6 : (putRow w5 p8 0 (msc msZ)).heap[p6]? = some (.cells (qsc x) 36 (0, 0)) := c6.keep hx5 (by simpa using hp86)
          have hm6 : (putRow w5 p8 0 (msc msZ)).heap[p8]? = some (.cells (msc msZ) 26 (0, 0)) := by simp [*]
          clear c6 Q5 V5
          go_wp2_with fail
          clear hx5 hm5 ox5 om5
          generalize putRow w5 p8 0 (msc msZ) = w6 at Q6 V6 hx6 hm6 ⊢
          go_quiet (fail)
          have cq := (Chg.refl [] w6).drewN nq
          have Q9 := Lib.hid (Q6.out.stay cq)
          have V9 := Lib.hid (V6.out.stay cq (by simp))
          have hx7 := cq.keep hx6 (by simp)
          clear cq Q6 V6 hx6 hm6
          generalize w6.drewN nq = w7 at Q9 V9 hx7 ⊢
          have ox7 := old hx7
          go_wp2_with fail
          refine (len_ok Q9.out).mono ?_
          rintro e w' ⟨rfl, rfl⟩
          rw [HL.out]
          have tn : (((0 : Nat) : Int) != ((0 : Nat) : Int)) = false := by simp
          try simp only [Int.natCast_add, Int.cast_ofNat_Int] at tn
          go_wp2_with fail
          refine (mall_ok Q9.out).mono ?_
          rintro e w8 ⟨A8, c8, rfl, s8, hc8⟩
          have S8 := Lib.hid s8
          have Q10 := Lib.hid (Q9.out.stay hc8)
          have V10 := Lib.hid (V9.out.stay hc8 (by simp))
          clear s8 hc8
          rw [HL.out]
          go_wp2_with fail
          refine (msgs_same A8 B (0) c8 cap ([] : List Ms) w8 (HL.out ▸ S8.out) (HL.out ▸ V10.out.sl) HL.out.symm (by omega)).mono ?_
          rintro e w9 ⟨rfl, hc9⟩
          have Q11 := Lib.hid (Q10.out.stay hc9)
          have V11 := Lib.hid (V10.out.stay hc9 (by simp))
          clear hc9
          go_wp2_with fail
          go_roundw
          case rel => exact ⟨k + 1, b5, bh, cap, B, ([] : List Ms), by omega, by go_num, by rw [HL.out], Q11.out, V11.out, by rw [HL.out]; omega⟩
          case measure => simp [intOf]; omega
        | cons y ys =>
          rw [headM_cons, show someB (y :: ys) = true from rfl]
          have c6 := (Chg.refl [p8] w5).putRow p8 0 (msc y) (.inl (by simp))
          have Q6 := Lib.hid (show Qu W (putRow w5 p8 0 (msc y)) q b5 ys from Q5.out.keep c6 (by simp; exact hW8.out) (by have := N9.out; simp at this ⊢; omega) (by have := N9.out; simp at this ⊢; omega))
          have V6 := Lib.hid (V5.out.stay c6 (by simpa using HH.out))
          have hx6 : (putRow w5 p8 0 (msc y)).heap[p6]? = some (.cells (qsc x) 36 (0, 0)) := c6.keep hx5 (by simpa using hp86)
          have hm6 : (putRow w5 p8 0 (msc y)).heap[p8]? = some (.cells (msc y) 26 (0, 0)) := by simp [*]
          obtain ⟨hne, o, C, rfl, hbh, hih, hph⟩ := V6.out.1.first Ms.len
          have hph' : rowPart (some (.cells C 26 (0, 0))) o 12 = msc y := hph
          have hle := V6.out.1.le
          have hsl := slR_tail (P := Tryd.prog) eltMsg (some ⟨bh, o, none⟩) ys.length cap (by simpa using hle)
          have g5 : (0 : Int) < (ys.length : Int) + 1 := by omega
          have g6 : (ys.length : Int) + 1 ≤ 1000 := by simp at hxk; omega
          have HXK := Lib.hid hxk
          clear c6 Q5 V5 hph hne hle hxk
          go_wp2_with fail
          clear hx5 hm5 ox5 om5
          generalize putRow w5 p8 0 (msc y) = w6 at Q6 V6 hx6 hm6 hbh ⊢
          go_quiet (fail)
          have cq := (Chg.refl [] w6).drewN nq
          have Q7 := Lib.hid (Q6.out.stay cq)
          have V7 := Lib.hid (V6.out.stay cq (by simp))
          have hx7 := cq.keep hx6 (by simp)
          clear cq Q6 V6 hx6 hm6 hbh
          generalize w6.drewN nq = w7 at Q7 V7 hx7 ⊢
          have ox7 := old hx7
          have hxk := HXK.out
          have Q9 := Q7
          have V9 := Lib.hid V7.out.tail
          simp only [List.length_cons] at hxk
          go_wp2_with fail
          refine (len_ok Q9.out).mono ?_
          rintro e w' ⟨rfl, rfl⟩
          have tn : (((ys.length : Nat) : Int) != ((ys.length : Nat) : Int)) = false := by simp
          try simp only [Int.natCast_add, Int.cast_ofNat_Int] at tn
          go_wp2_with fail
          refine (mall_ok Q9.out).mono ?_
          rintro e w8 ⟨A8, c8, rfl, s8, hc8⟩
          have S8 := Lib.hid s8
          have Q10 := Lib.hid (Q9.out.stay hc8)
          have V10 := Lib.hid (V9.out.stay hc8 (by simp))
          clear s8 hc8
          go_wp2_with fail
          refine (msgs_same A8 (behind 12 (some ⟨bh, o, none⟩) cap) (ys.length) c8 (cap - 1) ys w8 S8.out V10.out.sl rfl (by omega)).mono ?_
          rintro e w9 ⟨rfl, hc9⟩
          have Q11 := Lib.hid (Q10.out.stay hc9)
          have V11 := Lib.hid (V10.out.stay hc9 (by simp))
          clear hc9
          go_wp2_with fail
          go_roundw
          case rel => exact ⟨k + 1, b5, bh, (cap - 1), (behind 12 (some ⟨bh, o, none⟩) cap), ys, by omega, by go_num, rfl, Q11.out, V11.out, by omega⟩
          case measure => simp [intOf]; omega
      have tk1 : (x.kd == 1) = false := by simpa using k1
      clear k1
      by_cases k2 : x.kd = 2
      · have tk : (x.kd == 2) = true := by simp [k2]
        clear k2
        have ox := old hx3
        go_wp2_with fail
        have c4 := (Chg.refl [] (wr.alloc (.cells (qsc x) 36))).alloc (.cells (msc msZ) 26)
        have hx4 := c4.keep hx3 (by simp)
        have hm4 : ((wr.alloc (.cells (qsc x) 36)).alloc (.cells (msc msZ) 26)).heap[wr.heap.size + 1]? = some (.cells (msc msZ) 26 (0, 0)) := by simp
        have Q4 := Lib.hid (Q3.out.stay c4)
        have V4 := Lib.hid (V3.out.stay c4 (by simp))
        have hp8q : wr.heap.size + 1 ≠ q := by have := Q.out.oldq.lt; omega
        have hp8b : wr.heap.size + 1 ≠ be := by have := Q.out.olde.lt; omega
        have N8 := Lib.hid (show wr.heap.size + 1 ∉ [q, be] by simp; exact ⟨hp8q, hp8b⟩)
        have hp8h : bh ≠ wr.heap.size + 1 := by have := V.out.2.2.2.2.lt; omega
        have HH := Lib.hid hp8h
        have hp86 : wr.heap.size ≠ wr.heap.size + 1 := by omega
        have hW8 := Lib.hid (show W.heap.size ≤ wr.heap.size + 1 by have := Q.out.1.size; omega)
        clear c4 hx3 Q3 V3 hp8q hp8b hp8h ox
        generalize (wr.alloc (.cells (qsc x) 36)).alloc (.cells (msc msZ) 26) = w4 at hx4 hm4 Q4 V4 ⊢
        generalize wr.heap.size + 1 = p8 at hm4 N8 HH hp86 hW8 ⊢
        generalize wr.heap.size = p6 at hx4 N6 hp86 ⊢
        have hp68 : p8 ≠ p6 := fun e => hp86 e.symm
        refine (mhead_ok Q4.out).mono ?_
        rintro e w5 ⟨rfl, c5⟩
        have hx5 := c5.keep hx4 (by simp)
        have hm5 := c5.keep hm4 (by simp)
        have V5 := Lib.hid (V4.out.stay c5 (by simp))
        have q5 := Q4.out.stay c5
        have N9 := N8
        have Q5 := Lib.hid q5
        clear c5 q5 hx4 hm4 Q4 V4
        have ox5 := old hx5
        have om5 := old hm5
        cases xs with
        | nil =>
          rw [headM_nil, show someB ([] : List Ms) = false from rfl]
          have HL := Lib.hid (show ([] : List Ms).length = 0 from rfl)
          have c6 := (Chg.refl [p8] w5).putRow p8 0 (msc msZ) (.inl (by simp))
          have Q6 := Lib.hid (show Qu W (putRow w5 p8 0 (msc msZ)) q be [] from Q5.out.keep c6 (by simp; exact hW8.out) (by have := N9.out; simp at this ⊢; omega) (by have := N9.out; simp at this ⊢; omega))
          have V6 := Lib.hid (V5.out.stay c6 (by simpa using HH.out))
          have hx6 : (putRow w5 p8 0 (msc msZ)).heap[p6]? = some (.cells (qsc x) 36 (0, 0)) := c6.keep hx5 (by simpa using hp86)
          have hm6 : (putRow w5 p8 0 (msc msZ)).heap[p8]? = some (.cells (msc msZ) 26 (0, 0)) := by simp [*]
          clear c6 Q5 V5
          go_wp2_with fail
          clear hx5 hm5 ox5 om5
          generalize putRow w5 p8 0 (msc msZ) = w6 at Q6 V6 hx6 hm6 ⊢
          go_quiet (fail)
          have cq := (Chg.refl [] w6).drewN nq
          have Q9 := Lib.hid (Q6.out.stay cq)
          have V9 := Lib.hid (V6.out.stay cq (by simp))
          have hx7 := cq.keep hx6 (by simp)
          clear cq Q6 V6 hx6 hm6
          generalize w6.drewN nq = w7 at Q9 V9 hx7 ⊢
          have ox7 := old hx7
          go_wp2_with fail
          refine (len_ok Q9.out).mono ?_
          rintro e w' ⟨rfl, rfl⟩
          rw [HL.out]
          have tn : (((0 : Nat) : Int) != ((0 : Nat) : Int)) = false := by simp
          try simp only [Int.natCast_add, Int.cast_ofNat_Int] at tn
          go_wp2_with fail
          refine (mall_ok Q9.out).mono ?_
          rintro e w8 ⟨A8, c8, rfl, s8, hc8⟩
          have S8 := Lib.hid s8
          have Q10 := Lib.hid (Q9.out.stay hc8)
          have V10 := Lib.hid (V9.out.stay hc8 (by simp))
          clear s8 hc8
          rw [HL.out]
          go_wp2_with fail
          refine (msgs_same A8 B (0) c8 cap ([] : List Ms) w8 (HL.out ▸ S8.out) (HL.out ▸ V10.out.sl) HL.out.symm (by omega)).mono ?_
          rintro e w9 ⟨rfl, hc9⟩
          have Q11 := Lib.hid (Q10.out.stay hc9)
          have V11 := Lib.hid (V10.out.stay hc9 (by simp))
          clear hc9
          go_wp2_with fail
          go_roundw
          case rel => exact ⟨k + 1, be, bh, cap, B, ([] : List Ms), by omega, by go_num, by rw [HL.out], Q11.out, V11.out, by rw [HL.out]; omega⟩
          case measure => simp [intOf]; omega
        | cons y ys =>
          rw [headM_cons, show someB (y :: ys) = true from rfl]
          have c6 := (Chg.refl [p8] w5).putRow p8 0 (msc y) (.inl (by simp))
          have Q6 := Lib.hid (show Qu W (putRow w5 p8 0 (msc y)) q be (y :: ys) from Q5.out.keep c6 (by simp; exact hW8.out) (by have := N9.out; simp at this ⊢; omega) (by have := N9.out; simp at this ⊢; omega))
          have V6 := Lib.hid (V5.out.stay c6 (by simpa using HH.out))
          have hx6 : (putRow w5 p8 0 (msc y)).heap[p6]? = some (.cells (qsc x) 36 (0, 0)) := c6.keep hx5 (by simpa using hp86)
          have hm6 : (putRow w5 p8 0 (msc y)).heap[p8]? = some (.cells (msc y) 26 (0, 0)) := by simp [*]
          obtain ⟨hne, o, C, rfl, hbh, hih, hph⟩ := V6.out.1.first Ms.len
          have hph' : rowPart (some (.cells C 26 (0, 0))) o 12 = msc y := hph
          have hle := V6.out.1.le
          have hsl := slR_tail (P := Tryd.prog) eltMsg (some ⟨bh, o, none⟩) ys.length cap (by simpa using hle)
          have g5 : (0 : Int) < (ys.length : Int) + 1 := by omega
          have g6 : (ys.length : Int) + 1 ≤ 1000 := by simp at hxk; omega
          have HXK := Lib.hid hxk
          clear c6 Q5 V5 hph hne hle hxk
          go_wp2_with fail
          clear hx5 hm5 ox5 om5
          generalize putRow w5 p8 0 (msc y) = w6 at Q6 V6 hx6 hm6 hbh ⊢
          go_quiet (fail)
          have cq := (Chg.refl [] w6).drewN nq
          have Q7 := Lib.hid (Q6.out.stay cq)
          have V7 := Lib.hid (V6.out.stay cq (by simp))
          have hx7 := cq.keep hx6 (by simp)
          clear cq Q6 V6 hx6 hm6 hbh
          generalize w6.drewN nq = w7 at Q7 V7 hx7 ⊢
          have ox7 := old hx7
          have hxk := HXK.out
          have Q9 := Q7
          have V9 := V7
          have HL := Lib.hid (show (y :: ys).length = ys.length + 1 from rfl)
          simp only [List.length_cons] at hxk
          go_wp2_with fail
          refine (len_ok Q9.out).mono ?_
          rintro e w' ⟨rfl, rfl⟩
          rw [HL.out]
          have tn : (((ys.length + 1 : Nat) : Int) != ((ys.length + 1 : Nat) : Int)) = false := by simp
          try simp only [Int.natCast_add, Int.cast_ofNat_Int] at tn
          go_wp2_with fail
          refine (mall_ok Q9.out).mono ?_
          rintro e w8 ⟨A8, c8, rfl, s8, hc8⟩
          have S8 := Lib.hid s8
          have Q10 := Lib.hid (Q9.out.stay hc8)
          have V10 := Lib.hid (V9.out.stay hc8 (by simp))
          clear s8 hc8
          rw [HL.out]
          go_wp2_with fail
          refine (msgs_same A8 (some ⟨bh, o, none⟩) (ys.length + 1) c8 cap (y :: ys) w8 (HL.out ▸ S8.out) (HL.out ▸ V10.out.sl) HL.out.symm (by omega)).mono ?_
          rintro e w9 ⟨rfl, hc9⟩
          have Q11 := Lib.hid (Q10.out.stay hc9)
          have V11 := Lib.hid (V10.out.stay hc9 (by simp))
          clear hc9
          go_wp2_with fail
          go_roundw
          case rel => exact ⟨k + 1, be, bh, cap, (some ⟨bh, o, none⟩), (y :: ys), by omega, by go_num, by rw [HL.out], Q11.out, V11.out, by rw [HL.out]; omega⟩
          case measure => simp [intOf]; omega
      have tk2 : (x.kd == 2) = false := by simpa using k2
      clear k2
      by_cases k3 : x.kd = 3
      · have tk : (x.kd == 3) = true := by simp [k3]
        clear k3
        have ox := old hx3
        go_wp2_with fail
        generalize wr.alloc (.cells (qsc x) 36) = w3 at hx3 Q3 V3 ⊢
        generalize wr.heap.size = p6 at hx3 N6 ⊢
        refine (mclear_ok Q3.out).mono ?_
        rintro e w4 ⟨rfl, q4, c4⟩
        have Q9 := Lib.hid q4
        have V9 := Lib.hid (Hv.nil HT.out q4.1 q4.2.2.1 q4.2.2.1)
        have HL := Lib.hid (show ([] : List Ms).length = 0 from rfl)
        clear q4 c4 hx3 Q3 V3 ox
        go_wp2_with fail
        refine (len_ok Q9.out).mono ?_
        rintro e w' ⟨rfl, rfl⟩
        rw [HL.out]
        have tn : (((0 : Nat) : Int) != ((0 : Nat) : Int)) = false := by simp
        try simp only [Int.natCast_add, Int.cast_ofNat_Int] at tn
        go_wp2_with fail
        refine (mall_ok Q9.out).mono ?_
        rintro e w8 ⟨A8, c8, rfl, s8, hc8⟩
        have S8 := Lib.hid s8
        have Q10 := Lib.hid (Q9.out.stay hc8)
        have V10 := Lib.hid (V9.out.stay hc8 (by simp))
        clear s8 hc8
        rw [HL.out]
        go_wp2_with fail
        refine (msgs_same A8 none (0) c8 0 ([] : List Ms) w8 (HL.out ▸ S8.out) (HL.out ▸ V10.out.sl) HL.out.symm (by omega)).mono ?_
        rintro e w9 ⟨rfl, hc9⟩
        have Q11 := Lib.hid (Q10.out.stay hc9)
        have V11 := Lib.hid (V10.out.stay hc9 (by simp))
        clear hc9
        go_wp2_with fail
        go_roundw
        case rel => exact ⟨k + 1, q, 0, 0, none, ([] : List Ms), by omega, by go_num, by rw [HL.out], Q11.out, V11.out, by rw [HL.out]; omega⟩
        case measure => simp [intOf]; omega
      have tk3 : (x.kd == 3) = false := by simpa using k3
      clear k3
      have ox := old hx3
      go_wp2_with fail
      generalize wr.alloc (.cells (qsc x) 36) = w3 at hx3 Q3 V3 ⊢
      generalize wr.heap.size = p6 at hx3 N6 ⊢
      have Q9 := Q3
      have V9 := V3
      refine (len_ok Q9.out).mono ?_
      rintro e w' ⟨rfl, rfl⟩
      have tn : (((xs.length : Nat) : Int) != ((xs.length : Nat) : Int)) = false := by simp
      try simp only [Int.natCast_add, Int.cast_ofNat_Int] at tn
      go_wp2_with fail
      refine (mall_ok Q9.out).mono ?_
      rintro e w8 ⟨A8, c8, rfl, s8, hc8⟩
      have S8 := Lib.hid s8
      have Q10 := Lib.hid (Q9.out.stay hc8)
      have V10 := Lib.hid (V9.out.stay hc8 (by simp))
      clear s8 hc8
      go_wp2_with fail
      refine (msgs_same A8 B (xs.length) c8 cap xs w8 S8.out V10.out.sl rfl (by omega)).mono ?_
      rintro e w9 ⟨rfl, hc9⟩
      have Q11 := Lib.hid (Q10.out.stay hc9)
      have V11 := Lib.hid (V10.out.stay hc9 (by simp))
      clear hc9
      go_wp2_with fail
      go_roundw
      case rel => exact ⟨k + 1, be, bh, cap, B, xs, by omega, by go_num, rfl, Q11.out, V11.out, by omega⟩
      case measure => simp [intOf]; omega
    · have : k = N := by omega
      subst this
      have t1 : decide (k < k) = false := by simp
      have CQ := Lib.hid Q.out.1
      have TQ := Lib.hid Q.out.tab
      go_wp2_with (go_at_call 16; refine (mwakes _ TQ.out).mono ?_; rintro e w5 ⟨rfl, c5⟩)
      go_ret
      exact ⟨rfl, CQ.out.trans c5⟩
end Go.Proofs.YtkbogampnjamiaaDoor
