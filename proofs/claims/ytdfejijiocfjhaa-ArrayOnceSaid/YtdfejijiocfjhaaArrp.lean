/- ArrayPlays, walked. No condition. -/
import Derived.Test.YtdfejijiocfjhaaArrx
import Derived.Deep.Cut
import Derived.Deep.CutBlock
import Derived.Deep.CutRange
import Derived.Deep.RegionHeld3
namespace Go.Proofs.Ytdfejijiocfjhaa
open Go.RowKit
set_option linter.unusedVariables false
set_option maxHeartbeats 1000000
attribute [local go_sem ↓] append_appS copy_copS clear_clrS make_mkS cell_row frozen_row loadLine storeLine loadSlot storeSlot heap_drew heap_drewN heap_alloc heap_past heap_setCell heap_putRow vs_get slc_st slc_li slc_us
attribute [local go_sem] rowCell_some rowFrozen_some rowHas_some rowIn_some rowPart_full rowPart_lit rowPut_full rowPut_lit rowSet_some size_putRow vs_size vs_one wideLine wideSlot run_loadS run_storeS run_appS run_copS run_clrS run_mkS loadW_at storeW_at fit_all fit_le one_int one_bool one_pointer one_slice allOne_list putRow_new ne_size1 ne_size2 ne_size3 ne_size4 zero8_length line_eq lit8 slc_size slc_one slc_part slc_in fold_slt fold_slc slc_set_us
attribute [local simp ↓] heap_drew heap_drewN heap_alloc heap_past heap_setCell heap_putRow
attribute [local simp] rowCell_some rowFrozen_some rowHas_some rowIn_some rowPart_full rowPart_lit rowPut_full rowPut_lit rowSet_some size_putRow vs_size fit_all putRow_new ne_size1 ne_size2 ne_size3 ne_size4 zero8_length slc_size


attribute [local go_sem ↓] loadRSlot storeRSlot loadAStep storeAStep asc_kd asc_li asc_st
attribute [local go_sem] wideRSlot wideAStep asc_size asc_one asc_l asc_in
attribute [local go_sem ↓] slotZ_lit
set_option maxRecDepth 100000 in
set_option maxHeartbeats 16000000 in
theorem aplays_any (si wi : Int) (A : Option Addr) (N cN : Nat) (xs : List Value) (W : World) (hA : Sl W 11 A N xs) (hN : N ≤ maxLen) (hk : ∀ i, i < N → AreKd W kAStep ((xs.drop (i * 11)).take 11)) :
    Calls Try.prog 3 #[.int .i64 si, .int .i64 wi, .slice A N cN] W fun e w' => e = .returned (.bool true) ∧ Chg [] W w' := by
  unfold maxLen at hN
  have HA := Lib.hid hA
  have HK := Lib.hid hk
  clear hA hk
  by_cases h200 : 200 < N
  · have t0 : decide (200 < N) = true := by simpa using h200
    go_enter Try.func3, Try.ntmps3
    go_wp2_with (go_at_call 8; refine (wakes_true _).mono ?_; rintro e w5 ⟨rfl, c5⟩)
    go_ret
    exact ⟨rfl, c5⟩
  have t0 : decide (200 < N) = false := by simpa using h200
  have hN' : N ≤ 200 := by omega
  have gN : (N : Int) ≤ 200 := by omega
  by_cases hgood : goodNew si wi
  · obtain ⟨S, rfl⟩ : ∃ S : Nat, si = S := ⟨si.toNat, by unfold goodNew at hgood; omega⟩
    obtain ⟨M, rfl⟩ : ∃ M : Nat, wi = M := ⟨wi.toNat, by unfold goodNew at hgood; omega⟩
    go_enter Try.func3, Try.ntmps3
    go_wp2_with fail
    refine (sys_new S M W W (Chg.refl _ _) hgood).mono ?_
    rintro e w1 ⟨a, b, rfl, s1, _⟩
    have S1 := Lib.hid s1
    clear s1
    go_wp2_with fail
    refine (rnew_ok S M w1 hgood).mono ?_
    rintro e w2 ⟨c, d, rfl, hc2, hd2, c2, r2⟩
    have HB := Lib.hid (show ABoth W w2 a b c d S M (List.replicate (S * M) sltZ) (List.replicate (S * M) sltZ) 0 0 by
      have h1 := S1.out.2.1.olda
      have h2 := S1.out.2.1.oldb
      have h3 := S1.out.1.size
      refine ⟨S1.out.keep c2, r2, ?_, ?_⟩
      · simp only [List.mem_cons, List.not_mem_nil, or_false, not_or, forall_eq_or_imp, forall_eq]
        omega
      · simp only [List.mem_cons, List.not_mem_nil, or_false, forall_eq_or_imp, forall_eq]
        omega)
    clear S1 c2 r2 hc2 hd2
    go_wp2_with fail
    generalize List.replicate (S * M) sltZ = ys0 at HB
    go_loopw [11] (fun i wr => ∃ (k : Nat) (ys : List Slt) (u : Int), k ≤ N ∧ i = .int .i64 k ∧ ABoth W wr a b c d S M ys ys u u ∧ 0 ≤ u ∧ u ≤ k) (fun i _ => N - (intOf i).toNat)
    case atStart => exact ⟨0, _, 0, by omega, rfl, HB.out, by omega, by omega⟩
    case round =>
      obtain ⟨k, ys, u, hkN, rfl, hboth, u0, uk⟩ := hrel
      have B := Lib.hid hboth
      clear hboth
      have g0 : (0 : Int) ≤ (k : Int) := by omega
      by_cases hlt : k < N
      · have t1 : decide (k < N) = true := by simpa using hlt
        have g1 : (k : Int) < (N : Int) := by omega
        have u1 : u ≤ 1000000000 := by omega
        obtain ⟨ba, oa, rfl⟩ := HA.out.addr (by omega)
        obtain ⟨x, cs, t, f, hb, hi, hp⟩ := astep_row HA.out hlt (HK.out k hlt)
        have hbr := B.out.1.1.keep hb (by simp)
        have obr := old hbr
        have B1 := Lib.hid (B.out.keep ((Chg.refl [] wr).alloc (.cells (asc x) 35)))
        have hx1 : (wr.alloc (.cells (asc x) 35)).heap[wr.heap.size]? = some (.cells (asc x) 35 (0, 0)) := by simp
        have NX := Lib.hid (B.out.else1 (Nat.le_refl _))
        have NY := Lib.hid (B.out.else2 (Nat.le_refl _))
        clear hb
        go_upto_block 2 with (fail)
        generalize wr.alloc (.cells (asc x) 35) = w3 at hx1 B1 ⊢
        go_cut [13, 14, 15, 16, 17, 18] from 61 to 184 (fun s13 s14 s15 s16 s17 s18 wx => ∃ (ys9 : List Slt) (u9 : Int), ABoth W wx a b c d S M ys9 ys9 u9 u9 ∧ 0 ≤ u9 ∧ u9 ≤ k + 1)
        case first =>
          by_cases k0 : x.kd = 0
          · have tk : (x.kd == 0) = true := by simp [k0]
            clear k0
            go_wp2_with fail
            go_region_held3 (fun w' => w'.heap[wr.heap.size]? = some (.cells (asc x) 35 (0, 0))) (first | exact hx1 | exact c4.keep hx1 NX.out | exact c5.keep (c4.keep hx1 NX.out) NY.out)
              (first
                | (go_at_call 11; refine (sys_set (B1.out.keep ((Chg.refl [] w3).drew)).1 u0 u1 x.li x.st x.l x.h).mono ?_; rintro e w' ⟨rfl, s4, c4⟩)
                | (go_at_call 12; refine (rsetl_any c d S M ys u x.li x.st x.l x.h _ ((B1.out.keep ((Chg.refl [] w3).drew)).one s4 c4).2.1 u0 u1).mono ?_; rintro e w' ⟨rfl, c5, s5⟩))
            all_goals
              have B9 := Lib.hid (((B1.out.keep ((Chg.refl [] w3).drew)).one s4 c4).other s5 c5)
              clear s4 c4 s5 c5 hx1
              have HU := Lib.hid (setU_le (S := S) (W := M) (xs := ys) (u := u) (li := x.li) (st := x.st))
              have tv : (setVal S M ys x.li x.st != setVal S M ys x.li x.st) = false := by simp
              go_wp2_with fail
              go_meet
              case rel => exact ⟨_, _, B9.out, by have := HU.out; omega, by have := HU.out; omega⟩
          have tk0 : (x.kd == 0) = false := by simpa using k0
          by_cases k1 : x.kd = 1
          · have tk : (x.kd == 1) = true := by simp [k1]
            clear k1
            have ox1 := old hx1
            go_wp2_with fail
            refine (sys_touch B1.out.1 u0 u1 x.li).mono ?_
            rintro e w4 ⟨rfl, s4, c4⟩
            have hx4 := c4.keep hx1 NX.out
            have ox4 := old hx4
            have B4 := Lib.hid (B1.out.one s4 c4)
            clear s4 c4 hx1 ox1
            go_wp2_with fail
            refine (rtouch_any c d S M ys u x.li w4 B4.out.2.1 u0 u1).mono ?_
            rintro e w5 ⟨rfl, c5, s5⟩
            have B9 := Lib.hid (B4.out.other s5 c5)
            have HU := Lib.hid (touchU_le (xs := ys) (u := u) (li := x.li))
            clear s5 c5 hx4 ox4
            go_wp2_with fail
            go_meet
            case rel => exact ⟨_, _, B9.out, by have := HU.out; omega, by have := HU.out; omega⟩
          have tk1 : (x.kd == 1) = false := by simpa using k1
          by_cases k2 : x.kd = 2
          · have tk : (x.kd == 2) = true := by simp [k2]
            clear k2
            go_wp2_with fail
            go_region_held3 (fun w' => w'.heap[wr.heap.size]? = some (.cells (asc x) 35 (0, 0))) (first | exact hx1 | exact c4.keep hx1 NX.out | exact c5.keep (c4.keep hx1 NX.out) NY.out)
              (first
                | (go_at_call 15; refine (sys_drop (B1.out.keep ((Chg.refl [] w3).drew)).1 x.li).mono ?_; rintro e w' ⟨rfl, s4, c4⟩)
                | (go_at_call 16; refine (rdrop_any c d S M ys u x.li _ ((B1.out.keep ((Chg.refl [] w3).drew)).one s4 c4).2.1).mono ?_; rintro e w' ⟨rfl, c5, s5⟩))
            all_goals
              have B9 := Lib.hid (((B1.out.keep ((Chg.refl [] w3).drew)).one s4 c4).other s5 c5)
              clear s4 c4 s5 c5 hx1
              have tv : (dropVal ys x.li != dropVal ys x.li) = false := by simp
              go_wp2_with fail
              go_meet
              case rel => exact ⟨_, _, B9.out, u0, by omega⟩
          have tk2 : (x.kd == 2) = false := by simpa using k2
          by_cases k3 : x.kd = 3
          · have tk : (x.kd == 3) = true := by simp [k3]
            clear k3
            have ox1 := old hx1
            go_wp2_with fail
            refine (afind_any a b S M ys u x.li w3 B1.out.1.2.1).mono ?_
            rintro e w4 ⟨rfl, c4⟩
            have hx4 := c4.keep hx1 (by simp)
            have ox4 := old hx4
            have B4 := Lib.hid (B1.out.keep c4)
            clear c4 hx1 ox1
            cases hdv : dropVal ys x.li
            · have HF := Lib.hid (find_no hdv)
              rw [HF.out.2]
              clear hdv
              go_wp2_with fail
              have hs5 : (w4.alloc (.cells (slc sltZ) 41)).heap[w4.heap.size]? = some (.cells (slc sltZ) 41 (0, 0)) := by simp
              have B5 := Lib.hid (B4.out.keep ((Chg.refl [] w4).alloc (.cells (slc sltZ) 41)))
              generalize w4.alloc (.cells (slc sltZ) 41) = w5 at hs5 B5 ⊢
              refine (rat_ok c d S M ys u x.li w5 B5.out.2.1).mono ?_
              rintro e w6 ⟨rfl, rfl⟩
              rw [HF.out.1]
              have os5 := old hs5
              clear hx4 ox4
              go_wp2_with fail
              go_quiet (fail)
              go_wp2_with fail
              go_meet
              case rel => exact ⟨_, _, B5.out.keep ((Chg.refl [] _).drewN _), u0, by omega⟩
            · obtain ⟨j, hj, hy, hjl⟩ := find_yes hdv
              clear hdv
              generalize findVal ys x.li = y at hy ⊢
              have HJ := Lib.hid hj
              have HY := Lib.hid hy
              have h64 := B4.out.1.good.len64
              clear hj
              go_wp2_with fail
              have hs5 : (w4.alloc (.cells (slc y) 41)).heap[w4.heap.size]? = some (.cells (slc y) 41 (0, 0)) := by simp
              have B5 := Lib.hid (B4.out.keep ((Chg.refl [] w4).alloc (.cells (slc y) 41)))
              generalize w4.alloc (.cells (slc y) 41) = w5 at hs5 B5 ⊢
              refine (rat_ok c d S M ys u x.li w5 B5.out.2.1).mono ?_
              rintro e w6 ⟨rfl, rfl⟩
              rw [HJ.out]
              have os5 := old hs5
              have hc5 := B5.out.2.1.1
              have hd5 := B5.out.2.1.2.1
              have oc5 := old hc5
              have od5 := old hd5
              have r1 := slt_row hy [] 47 (0, 0)
              have r2 := slt_rowIn hy [] 47 (0, 0)
              have g5 : (j : Int) < (ys.length : Int) := by omega
              have g6 : (0 : Int) ≤ (j : Int) := by omega
              have g7 : (ys.length : Int) ≤ 64 := by omega
              have tj : decide ((0 : Int) ≤ (j : Int)) = true := by simp
              have tj2 : decide ((j : Int) < 0) = false := by simp
              clear hx4 ox4 hy
              go_wp2_with fail
              have HA1 := Lib.hid (show Sl ((w5.drew.alloc (.cells (slc y) 41)).alloc (.cells (slc y) 47)) 11 (some ⟨w5.heap.size, 0, none⟩) 1 (cat Slt.enc [y]) from (slt_slice w5.drew y 41).chg ((Chg.refl [] _).alloc _) (by simp))
              have HA2 := Lib.hid (show Sl ((w5.drew.alloc (.cells (slc y) 41)).alloc (.cells (slc y) 47)) 11 (some ⟨w5.heap.size + 1, 0, none⟩) 1 (cat Slt.enc [y]) from by
                have h1 := slt_slice (w5.drew.alloc (.cells (slc y) 41)) y 47
                rw [show (w5.drew.alloc (.cells (slc y) 41)).heap.size = w5.heap.size + 1 by simp] at h1
                exact h1)
              have CA := Lib.hid ((((Chg.refl [] w5).drew.alloc (.cells (slc y) 41)).alloc (.cells (slc y) 47)))
              have HB2 := Lib.hid (show Sl ((w5.drew.alloc (.cells (slc y) 47)).alloc (.cells (slc y) 41)) 11 (some ⟨w5.heap.size, 0, none⟩) 1 (cat Slt.enc [y]) from (slt_slice w5.drew y 47).chg ((Chg.refl [] _).alloc _) (by simp))
              have HB1 := Lib.hid (show Sl ((w5.drew.alloc (.cells (slc y) 47)).alloc (.cells (slc y) 41)) 11 (some ⟨w5.heap.size + 1, 0, none⟩) 1 (cat Slt.enc [y]) from by
                have h1 := slt_slice (w5.drew.alloc (.cells (slc y) 47)) y 41
                rw [show (w5.drew.alloc (.cells (slc y) 47)).heap.size = w5.heap.size + 1 by simp] at h1
                exact h1)
              have CB := Lib.hid ((((Chg.refl [] w5).drew.alloc (.cells (slc y) 47)).alloc (.cells (slc y) 41)))
              refine wp_region_noPanic ?_
              refine wp_region_held_drew (S := fun w' => w'.heap[w4.heap.size]? = some (.cells (slc y) 41 (0, 0)) ∧ w'.heap[c]? = some (.cells #[.int .i64 S, .int .i64 M, .slice (some ⟨d, 0, none⟩) ys.length ys.length, .int .i64 u] 50 (0, 0)) ∧ w'.heap[d]? = some (.cells (sq Slt.enc ys []) 47 (0, 0))) (by kernel_rfl) ?_ (fun hHeld => ?_)
              · exact ⟨((Chg.refl [] w5).drew).keep hs5 (by simp), ((Chg.refl [] w5).drew).keep hc5 (by simp), ((Chg.refl [] w5).drew).keep hd5 (by simp)⟩
              refine wpAnyH_take (i := 0) (oi := ({ dst := some 114, op := Op.move (Operand.tmp 14), type := 4, pos := "law.go:68", after := #[], guard := none } : Oper)) (v := ?_) rfl (by kernel_rfl) (by kernel_rfl) (by kernel_rfl) (fun _ _ _ h => h) (Or.inl ⟨by rfl, ?_⟩) (by assumption) ?_
              rotate_left
              · (intro w hSw; (try dsimp only at hSw); go_simp; try with_reducible rfl)
              try simp only [Act.put, List.setIfInBounds_toArray, List.set_cons_zero, List.set_cons_succ]
              refine wpAnyH_take (i := 1) (oi := ({ dst := some 115, op := Op.move (Operand.tmp 15), type := 3, pos := "law.go:68", after := #[], guard := none } : Oper)) (v := ?_) rfl (by kernel_rfl) (by kernel_rfl) (by kernel_rfl) (fun _ _ _ h => h) (Or.inl ⟨by rfl, ?_⟩) (by assumption) ?_
              rotate_left
              · (intro w hSw; (try dsimp only at hSw); go_simp; try with_reducible rfl)
              try simp only [Act.put, List.setIfInBounds_toArray, List.set_cons_zero, List.set_cons_succ]
              refine wpAnyH_take (i := 2) (oi := ({ dst := some 116, op := Op.binOp BinOp.geq 3 (Operand.tmp 115) (Operand.const (Value.int IntKind.i64 0)) 3, type := 4, pos := "law.go:68", after := #[{ on := 1, ground := Ground.data }], guard := none } : Oper)) (v := ?_) rfl (by kernel_rfl) (by kernel_rfl) (by kernel_rfl) (fun _ _ _ h => h) (Or.inl ⟨by rfl, ?_⟩) (by assumption) ?_
              rotate_left
              · (intro w hSw; (try dsimp only at hSw); go_simp; try with_reducible rfl)
              try simp only [Act.put, List.setIfInBounds_toArray, List.set_cons_zero, List.set_cons_succ]
              refine wpAnyH_take (i := 3) (oi := ({ dst := some 117, op := Op.binOp BinOp.neq 4 (Operand.tmp 114) (Operand.tmp 116) 4, type := 4, pos := "law.go:68", after := #[{ on := 0, ground := Ground.data }, { on := 2, ground := Ground.data }], guard := none } : Oper)) (v := ?_) rfl (by kernel_rfl) (by kernel_rfl) (by kernel_rfl) (fun _ _ _ h => h) (Or.inl ⟨by rfl, ?_⟩) (by assumption) ?_
              rotate_left
              · (intro w hSw; (try dsimp only at hSw); go_simp; try with_reducible rfl)
              try simp only [Act.put, List.setIfInBounds_toArray, List.set_cons_zero, List.set_cons_succ]
              refine wpAnyH_take (i := 4) (oi := ({ dst := some 118, op := Op.move (Operand.tmp 117), type := 4, pos := "law.go:68", after := #[{ on := 3, ground := Ground.data }], guard := none } : Oper)) (v := ?_) rfl (by kernel_rfl) (by kernel_rfl) (by kernel_rfl) (fun _ _ _ h => h) (Or.inl ⟨by rfl, ?_⟩) (by assumption) ?_
              rotate_left
              · (intro w hSw; (try dsimp only at hSw); go_simp; try with_reducible rfl)
              try simp only [Act.put, List.setIfInBounds_toArray, List.set_cons_zero, List.set_cons_succ]
              refine wpAnyH_take (i := 5) (oi := ({ dst := some 119, op := Op.move (Operand.tmp 15), type := 3, pos := "law.go:68", after := #[{ on := 4, ground := Ground.guard }], guard := some (4, false) } : Oper)) (v := ?_) rfl (by kernel_rfl) (by kernel_rfl) (by kernel_rfl) (fun _ _ _ h => h) (Or.inl ⟨by rfl, ?_⟩) (by assumption) ?_
              rotate_left
              · (intro w hSw; (try dsimp only at hSw); go_simp; try with_reducible rfl)
              try simp only [Act.put, List.setIfInBounds_toArray, List.set_cons_zero, List.set_cons_succ]
              refine wpAnyH_take (i := 6) (oi := ({ dst := some 120, op := Op.binOp BinOp.geq 3 (Operand.tmp 119) (Operand.const (Value.int IntKind.i64 0)) 3, type := 4, pos := "law.go:68", after := #[{ on := 5, ground := Ground.data }, { on := 4, ground := Ground.guard }], guard := some (4, false) } : Oper)) (v := ?_) rfl (by kernel_rfl) (by kernel_rfl) (by kernel_rfl) (fun _ _ _ h => h) (Or.inl ⟨by rfl, ?_⟩) (by assumption) ?_
              rotate_left
              · (intro w hSw; (try dsimp only at hSw); go_simp; try with_reducible rfl)
              try simp only [Act.put, List.setIfInBounds_toArray, List.set_cons_zero, List.set_cons_succ]
              refine wpAnyH_take (i := 7) (oi := ({ dst := some 121, op := Op.move (Operand.tmp 120), type := 4, pos := "law.go:68", after := #[{ on := 6, ground := Ground.data }, { on := 4, ground := Ground.chain }, { on := 4, ground := Ground.guard }], guard := some (4, false) } : Oper)) (v := ?_) rfl (by kernel_rfl) (by kernel_rfl) (by kernel_rfl) (fun _ _ _ h => h) (Or.inl ⟨by rfl, ?_⟩) (by assumption) ?_
              rotate_left
              · (intro w hSw; (try dsimp only at hSw); go_simp; try with_reducible rfl)
              try simp only [Act.put, List.setIfInBounds_toArray, List.set_cons_zero, List.set_cons_succ]
              refine wpAnyH_take (i := 8) (oi := ({ dst := some 122, op := Op.load 41 (Operand.tmp 13), type := 41, pos := "law.go:68", after := #[{ on := 7, ground := Ground.guard }], guard := some (7, true) } : Oper)) (v := ?_) rfl (by kernel_rfl) (by kernel_rfl) (by kernel_rfl) (fun _ _ _ h => h) (Or.inl ⟨by rfl, ?_⟩) (by assumption) ?_
              rotate_left
              · (intro w hSw; (try dsimp only at hSw); go_simp; try with_reducible rfl)
              try simp only [Act.put, List.setIfInBounds_toArray, List.set_cons_zero, List.set_cons_succ]
              refine wpAnyH_take (i := 10) (oi := ({ dst := some 124, op := Op.move (Operand.tmp 9), type := 28, pos := "law.go:68", after := #[{ on := 7, ground := Ground.guard }], guard := some (7, true) } : Oper)) (v := ?_) rfl (by kernel_rfl) (by kernel_rfl) (by kernel_rfl) (fun _ _ _ h => h) (Or.inl ⟨by rfl, ?_⟩) (by assumption) ?_
              rotate_left
              · (intro w hSw; (try dsimp only at hSw); go_simp; try with_reducible rfl)
              try simp only [Act.put, List.setIfInBounds_toArray, List.set_cons_zero, List.set_cons_succ]
              refine wpAnyH_take (i := 11) (oi := ({ dst := some 125, op := Op.nilCheck (Operand.tmp 124), type := 0, pos := "law.go:68", after := #[{ on := 10, ground := Ground.data }, { on := 7, ground := Ground.guard }], guard := some (7, true) } : Oper)) (v := ?_) rfl (by kernel_rfl) (by kernel_rfl) (by kernel_rfl) (fun _ _ _ h => h) (Or.inl ⟨by rfl, ?_⟩) (by assumption) ?_
              rotate_left
              · (intro w hSw; (try dsimp only at hSw); go_simp; try with_reducible rfl)
              try simp only [Act.put, List.setIfInBounds_toArray, List.set_cons_zero, List.set_cons_succ]
              refine wpAnyH_take (i := 12) (oi := ({ dst := some 126, op := Op.fieldAddr 50 (Operand.tmp 125) 2, type := 0, pos := "law.go:68", after := #[{ on := 11, ground := Ground.data }, { on := 7, ground := Ground.guard }], guard := some (7, true) } : Oper)) (v := ?_) rfl (by kernel_rfl) (by kernel_rfl) (by kernel_rfl) (fun _ _ _ h => h) (Or.inl ⟨by rfl, ?_⟩) (by assumption) ?_
              rotate_left
              · (intro w hSw; (try dsimp only at hSw); go_simp; try with_reducible rfl)
              try simp only [Act.put, List.setIfInBounds_toArray, List.set_cons_zero, List.set_cons_succ]
              refine wpAnyH_take (i := 13) (oi := ({ dst := some 127, op := Op.load 48 (Operand.tmp 126), type := 48, pos := "law.go:68", after := #[{ on := 12, ground := Ground.data }, { on := 7, ground := Ground.guard }], guard := some (7, true) } : Oper)) (v := ?_) rfl (by kernel_rfl) (by kernel_rfl) (by kernel_rfl) (fun _ _ _ h => h) (Or.inl ⟨by rfl, ?_⟩) (by assumption) ?_
              rotate_left
              · (intro w hSw; (try dsimp only at hSw); go_simp; try with_reducible rfl)
              try simp only [Act.put, List.setIfInBounds_toArray, List.set_cons_zero, List.set_cons_succ]
              refine wpAnyH_take (i := 14) (oi := ({ dst := some 128, op := Op.move (Operand.tmp 15), type := 3, pos := "law.go:68", after := #[{ on := 7, ground := Ground.guard }], guard := some (7, true) } : Oper)) (v := ?_) rfl (by kernel_rfl) (by kernel_rfl) (by kernel_rfl) (fun _ _ _ h => h) (Or.inl ⟨by rfl, ?_⟩) (by assumption) ?_
              rotate_left
              · (intro w hSw; (try dsimp only at hSw); go_simp; try with_reducible rfl)
              try simp only [Act.put, List.setIfInBounds_toArray, List.set_cons_zero, List.set_cons_succ]
              refine wpAnyH_take (i := 15) (oi := ({ dst := some 129, op := Op.indexAddr 48 (Operand.tmp 127) (Operand.tmp 128), type := 0, pos := "law.go:68", after := #[{ on := 13, ground := Ground.data }, { on := 14, ground := Ground.data }, { on := 7, ground := Ground.guard }], guard := some (7, true) } : Oper)) (v := ?_) rfl (by kernel_rfl) (by kernel_rfl) (by kernel_rfl) (fun _ _ _ h => h) (Or.inl ⟨by rfl, ?_⟩) (by assumption) ?_
              rotate_left
              · (intro w hSw; (try dsimp only at hSw); go_simp; try with_reducible rfl)
              try simp only [Act.put, List.setIfInBounds_toArray, List.set_cons_zero, List.set_cons_succ]
              refine wpAnyH_take (i := 16) (oi := ({ dst := some 130, op := Op.load 47 (Operand.tmp 129), type := 47, pos := "law.go:68", after := #[{ on := 15, ground := Ground.data }, { on := 7, ground := Ground.guard }], guard := some (7, true) } : Oper)) (v := ?_) rfl (by kernel_rfl) (by kernel_rfl) (by kernel_rfl) (fun _ _ _ h => h) (Or.inl ⟨by rfl, ?_⟩) (by assumption) ?_
              rotate_left
              · (intro w hSw; (try dsimp only at hSw); go_simp; try with_reducible rfl)
              try simp only [Act.put, List.setIfInBounds_toArray, List.set_cons_zero, List.set_cons_succ]
              refine wpAnyH_ready (rs := [9, 17]) (by kernel_rfl) (by simp) ?_
              refine AllReadyH.cons (o := ({ dst := some 123, op := Op.buildSlice 46 1 #[(0, Operand.tmp 122)], type := 46, pos := "law.go:68", after := #[{ on := 8, ground := Ground.data }, { on := 7, ground := Ground.guard }], guard := some (7, true) } : Oper)) rfl (fun K hK => ?_) (AllReadyH.cons (o := ({ dst := some 131, op := Op.buildSlice 48 1 #[(0, Operand.tmp 130)], type := 48, pos := "law.go:68", after := #[{ on := 16, ground := Ground.data }, { on := 7, ground := Ground.guard }], guard := some (7, true) } : Oper)) rfl (fun K hK => ?_) AllReadyH.nil)
              · go_simp
                refine hK.out _ _ ?_ (fun hHeld => ?_)
                · exact ⟨((Chg.refl [] w5).drew.alloc _).keep hs5 (by simp), ((Chg.refl [] w5).drew.alloc _).keep hc5 (by simp), ((Chg.refl [] w5).drew.alloc _).keep hd5 (by simp)⟩
                clear hK K
                try simp only [Act.put, List.setIfInBounds_toArray, List.set_cons_zero, List.set_cons_succ]
                refine wpAnyH_ready (rs := [17]) (by kernel_rfl) (by simp) ?_
                refine AllReadyH.cons (o := ({ dst := some 131, op := Op.buildSlice 48 1 #[(0, Operand.tmp 130)], type := 48, pos := "law.go:68", after := #[{ on := 16, ground := Ground.data }, { on := 7, ground := Ground.guard }], guard := some (7, true) } : Oper)) rfl (fun K hK => ?_) AllReadyH.nil
                go_simp
                refine hK.out _ _ ?_ (fun hHeld => ?_)
                · exact ⟨(((Chg.refl [] w5).drew.alloc _).alloc _).keep hs5 (by simp), (((Chg.refl [] w5).drew.alloc _).alloc _).keep hc5 (by simp), (((Chg.refl [] w5).drew.alloc _).alloc _).keep hd5 (by simp)⟩
                clear hK K
                try simp only [Act.put, List.setIfInBounds_toArray, List.set_cons_zero, List.set_cons_succ]
                refine wpAnyH_ready (rs := [18]) (by kernel_rfl) (by simp) ?_
                refine AllReadyH.cons (o := ({ dst := some 132, op := Op.call { callee := Callee.value (Operand.func 19), args := #[Operand.tmp 123, Operand.tmp 131], argTypes := #[46, 48] }, type := 4, pos := "law.go:68", after := #[{ on := 9, ground := Ground.data }, { on := 17, ground := Ground.data }, { on := 7, ground := Ground.chain }, { on := 7, ground := Ground.guard }], guard := some (7, true) } : Oper)) rfl (fun K hK => ?_) AllReadyH.nil
                go_simp
                go_at_call 19
                refine (same_ok _ _ 1 1 1 [y] _ HA1.out HA2.out rfl (by omega)).mono ?_
                rintro e w' ⟨rfl, c6⟩
                try go_wp2_with fail
                refine hK.out _ _ ?_ (fun hHeld => ?_)
                · exact ⟨(CA.out.trans c6).keep hs5 (by simp), (CA.out.trans c6).keep hc5 (by simp), (CA.out.trans c6).keep hd5 (by simp)⟩
                clear hK K
                try simp only [Act.put, List.setIfInBounds_toArray, List.set_cons_zero, List.set_cons_succ]
                refine wpAnyH_take (i := 19) (oi := ({ dst := some 133, op := Op.unOp UnOp.not 4 (Operand.tmp 132), type := 4, pos := "law.go:68", after := #[{ on := 18, ground := Ground.data }, { on := 7, ground := Ground.guard }], guard := some (7, true) } : Oper)) (v := ?_) rfl (by kernel_rfl) (by kernel_rfl) (by kernel_rfl) (fun _ _ _ h => h) (Or.inl ⟨by rfl, ?_⟩) (by assumption) ?_
                rotate_left
                · (intro w hSw; (try dsimp only at hSw); go_simp; try with_reducible rfl)
                try simp only [Act.put, List.setIfInBounds_toArray, List.set_cons_zero, List.set_cons_succ]
                refine wpAnyH_take (i := 20) (oi := ({ dst := some 134, op := Op.pick (Operand.tmp 121) (Operand.tmp 133) (Operand.const (Value.bool false)), type := 4, pos := "law.go:68", after := #[{ on := 7, ground := Ground.data }, { on := 19, ground := Ground.data }, { on := 4, ground := Ground.guard }], guard := some (4, false) } : Oper)) (v := ?_) rfl (by kernel_rfl) (by kernel_rfl) (by kernel_rfl) (fun _ _ _ h => h) (Or.inl ⟨by rfl, ?_⟩) (by assumption) ?_
                rotate_left
                · (intro w hSw; (try dsimp only at hSw); go_simp; try with_reducible rfl)
                try simp only [Act.put, List.setIfInBounds_toArray, List.set_cons_zero, List.set_cons_succ]
                refine wpAnyH_take (i := 21) (oi := ({ dst := some 135, op := Op.pick (Operand.tmp 118) (Operand.const (Value.bool true)) (Operand.tmp 134), type := 4, pos := "law.go:68", after := #[{ on := 4, ground := Ground.data }, { on := 20, ground := Ground.data }], guard := none } : Oper)) (v := ?_) rfl (by kernel_rfl) (by kernel_rfl) (by kernel_rfl) (fun _ _ _ h => h) (Or.inl ⟨by rfl, ?_⟩) (by assumption) ?_
                rotate_left
                · (intro w hSw; (try dsimp only at hSw); go_simp; try with_reducible rfl)
                try simp only [Act.put, List.setIfInBounds_toArray, List.set_cons_zero, List.set_cons_succ]
                refine wpAnyH_take (i := 22) (oi := ({ dst := some 136, op := Op.move (Operand.tmp 135), type := 4, pos := "law.go:68", after := #[{ on := 21, ground := Ground.data }, { on := 18, ground := Ground.chain }], guard := none } : Oper)) (v := ?_) rfl (by kernel_rfl) (by kernel_rfl) (by kernel_rfl) (fun _ _ _ h => h) (Or.inl ⟨by rfl, ?_⟩) (by assumption) ?_
                rotate_left
                · (intro w hSw; (try dsimp only at hSw); go_simp; try with_reducible rfl)
                try simp only [Act.put, List.setIfInBounds_toArray, List.set_cons_zero, List.set_cons_succ]
                refine wpAnyH_take (i := 23) (oi := ({ dst := some 137, op := Op.move (Operand.tmp 15), type := 3, pos := "law.go:68", after := #[{ on := 22, ground := Ground.guard }], guard := some (22, false) } : Oper)) (v := ?_) rfl (by kernel_rfl) (by kernel_rfl) (by kernel_rfl) (fun _ _ _ h => h) (Or.inl ⟨by rfl, ?_⟩) (by assumption) ?_
                rotate_left
                · (intro w hSw; (try dsimp only at hSw); go_simp; try with_reducible rfl)
                try simp only [Act.put, List.setIfInBounds_toArray, List.set_cons_zero, List.set_cons_succ]
                refine wpAnyH_take (i := 24) (oi := ({ dst := some 138, op := Op.binOp BinOp.lss 3 (Operand.tmp 137) (Operand.const (Value.int IntKind.i64 0)) 3, type := 4, pos := "law.go:68", after := #[{ on := 23, ground := Ground.data }, { on := 22, ground := Ground.guard }], guard := some (22, false) } : Oper)) (v := ?_) rfl (by kernel_rfl) (by kernel_rfl) (by kernel_rfl) (fun _ _ _ h => h) (Or.inl ⟨by rfl, ?_⟩) (by assumption) ?_
                rotate_left
                · (intro w hSw; (try dsimp only at hSw); go_simp; try with_reducible rfl)
                try simp only [Act.put, List.setIfInBounds_toArray, List.set_cons_zero, List.set_cons_succ]
                refine wpAnyH_take (i := 25) (oi := ({ dst := some 139, op := Op.move (Operand.tmp 138), type := 4, pos := "law.go:68", after := #[{ on := 24, ground := Ground.data }, { on := 22, ground := Ground.chain }, { on := 22, ground := Ground.guard }], guard := some (22, false) } : Oper)) (v := ?_) rfl (by kernel_rfl) (by kernel_rfl) (by kernel_rfl) (fun _ _ _ h => h) (Or.inl ⟨by rfl, ?_⟩) (by assumption) ?_
                rotate_left
                · (intro w hSw; (try dsimp only at hSw); go_simp; try with_reducible rfl)
                try simp only [Act.put, List.setIfInBounds_toArray, List.set_cons_zero, List.set_cons_succ]
                refine wpAnyH_take (i := 26) (oi := ({ dst := some 140, op := Op.load 41 (Operand.tmp 13), type := 41, pos := "law.go:68", after := #[{ on := 25, ground := Ground.guard }], guard := some (25, true) } : Oper)) (v := undef) rfl (by kernel_rfl) (by kernel_rfl) (by kernel_rfl) (fun _ _ _ h => h) (Or.inr ⟨by rfl, rfl⟩) (by assumption) ?_
                try simp only [Act.put, List.setIfInBounds_toArray, List.set_cons_zero, List.set_cons_succ]
                refine wpAnyH_take (i := 27) (oi := ({ dst := some 141, op := Op.build 41 #[], type := 41, pos := "law.go:68", after := #[{ on := 25, ground := Ground.guard }], guard := some (25, true) } : Oper)) (v := undef) rfl (by kernel_rfl) (by kernel_rfl) (by kernel_rfl) (fun _ _ _ h => h) (Or.inr ⟨by rfl, rfl⟩) (by assumption) ?_
                try simp only [Act.put, List.setIfInBounds_toArray, List.set_cons_zero, List.set_cons_succ]
                refine wpAnyH_take (i := 28) (oi := ({ dst := some 142, op := Op.binOp BinOp.neq 41 (Operand.tmp 140) (Operand.tmp 141) 41, type := 4, pos := "law.go:68", after := #[{ on := 26, ground := Ground.data }, { on := 27, ground := Ground.data }, { on := 25, ground := Ground.guard }], guard := some (25, true) } : Oper)) (v := undef) rfl (by kernel_rfl) (by kernel_rfl) (by kernel_rfl) (fun _ _ _ h => h) (Or.inr ⟨by rfl, rfl⟩) (by assumption) ?_
                try simp only [Act.put, List.setIfInBounds_toArray, List.set_cons_zero, List.set_cons_succ]
                refine wpAnyH_take (i := 29) (oi := ({ dst := some 143, op := Op.pick (Operand.tmp 139) (Operand.tmp 142) (Operand.const (Value.bool false)), type := 4, pos := "law.go:68", after := #[{ on := 25, ground := Ground.data }, { on := 28, ground := Ground.data }, { on := 22, ground := Ground.guard }], guard := some (22, false) } : Oper)) (v := ?_) rfl (by kernel_rfl) (by kernel_rfl) (by kernel_rfl) (fun _ _ _ h => h) (Or.inl ⟨by rfl, ?_⟩) (by assumption) ?_
                rotate_left
                · (intro w hSw; (try dsimp only at hSw); go_simp; try with_reducible rfl)
                try simp only [Act.put, List.setIfInBounds_toArray, List.set_cons_zero, List.set_cons_succ]
                refine wpAnyH_take (i := 30) (oi := ({ dst := some 144, op := Op.pick (Operand.tmp 136) (Operand.const (Value.bool true)) (Operand.tmp 143), type := 4, pos := "law.go:68", after := #[{ on := 22, ground := Ground.data }, { on := 29, ground := Ground.data }], guard := none } : Oper)) (v := ?_) rfl (by kernel_rfl) (by kernel_rfl) (by kernel_rfl) (fun _ _ _ h => h) (Or.inl ⟨by rfl, ?_⟩) (by assumption) ?_
                rotate_left
                · (intro w hSw; (try dsimp only at hSw); go_simp; try with_reducible rfl)
                try simp only [Act.put, List.setIfInBounds_toArray, List.set_cons_zero, List.set_cons_succ]
                refine wpAnyH_done (by kernel_rfl) ?_ _
                refine NoPanic.normal ?_
                have B9 := Lib.hid (B5.out.keep (CA.out.trans c6))
                clear c6 hs5 hc5 hd5
                go_wp2_with fail
                go_meet
                case rel => exact ⟨_, _, B9.out, u0, by omega⟩
              · go_simp
                refine hK.out _ _ ?_ (fun hHeld => ?_)
                · exact ⟨((Chg.refl [] w5).drew.alloc _).keep hs5 (by simp), ((Chg.refl [] w5).drew.alloc _).keep hc5 (by simp), ((Chg.refl [] w5).drew.alloc _).keep hd5 (by simp)⟩
                clear hK K
                try simp only [Act.put, List.setIfInBounds_toArray, List.set_cons_zero, List.set_cons_succ]
                refine wpAnyH_ready (rs := [9]) (by kernel_rfl) (by simp) ?_
                refine AllReadyH.cons (o := ({ dst := some 123, op := Op.buildSlice 46 1 #[(0, Operand.tmp 122)], type := 46, pos := "law.go:68", after := #[{ on := 8, ground := Ground.data }, { on := 7, ground := Ground.guard }], guard := some (7, true) } : Oper)) rfl (fun K hK => ?_) AllReadyH.nil
                go_simp
                refine hK.out _ _ ?_ (fun hHeld => ?_)
                · exact ⟨(((Chg.refl [] w5).drew.alloc _).alloc _).keep hs5 (by simp), (((Chg.refl [] w5).drew.alloc _).alloc _).keep hc5 (by simp), (((Chg.refl [] w5).drew.alloc _).alloc _).keep hd5 (by simp)⟩
                clear hK K
                try simp only [Act.put, List.setIfInBounds_toArray, List.set_cons_zero, List.set_cons_succ]
                refine wpAnyH_ready (rs := [18]) (by kernel_rfl) (by simp) ?_
                refine AllReadyH.cons (o := ({ dst := some 132, op := Op.call { callee := Callee.value (Operand.func 19), args := #[Operand.tmp 123, Operand.tmp 131], argTypes := #[46, 48] }, type := 4, pos := "law.go:68", after := #[{ on := 9, ground := Ground.data }, { on := 17, ground := Ground.data }, { on := 7, ground := Ground.chain }, { on := 7, ground := Ground.guard }], guard := some (7, true) } : Oper)) rfl (fun K hK => ?_) AllReadyH.nil
                go_simp
                go_at_call 19
                refine (same_ok _ _ 1 1 1 [y] _ HB1.out HB2.out rfl (by omega)).mono ?_
                rintro e w' ⟨rfl, c6⟩
                try go_wp2_with fail
                refine hK.out _ _ ?_ (fun hHeld => ?_)
                · exact ⟨(CB.out.trans c6).keep hs5 (by simp), (CB.out.trans c6).keep hc5 (by simp), (CB.out.trans c6).keep hd5 (by simp)⟩
                clear hK K
                try simp only [Act.put, List.setIfInBounds_toArray, List.set_cons_zero, List.set_cons_succ]
                refine wpAnyH_take (i := 19) (oi := ({ dst := some 133, op := Op.unOp UnOp.not 4 (Operand.tmp 132), type := 4, pos := "law.go:68", after := #[{ on := 18, ground := Ground.data }, { on := 7, ground := Ground.guard }], guard := some (7, true) } : Oper)) (v := ?_) rfl (by kernel_rfl) (by kernel_rfl) (by kernel_rfl) (fun _ _ _ h => h) (Or.inl ⟨by rfl, ?_⟩) (by assumption) ?_
                rotate_left
                · (intro w hSw; (try dsimp only at hSw); go_simp; try with_reducible rfl)
                try simp only [Act.put, List.setIfInBounds_toArray, List.set_cons_zero, List.set_cons_succ]
                refine wpAnyH_take (i := 20) (oi := ({ dst := some 134, op := Op.pick (Operand.tmp 121) (Operand.tmp 133) (Operand.const (Value.bool false)), type := 4, pos := "law.go:68", after := #[{ on := 7, ground := Ground.data }, { on := 19, ground := Ground.data }, { on := 4, ground := Ground.guard }], guard := some (4, false) } : Oper)) (v := ?_) rfl (by kernel_rfl) (by kernel_rfl) (by kernel_rfl) (fun _ _ _ h => h) (Or.inl ⟨by rfl, ?_⟩) (by assumption) ?_
                rotate_left
                · (intro w hSw; (try dsimp only at hSw); go_simp; try with_reducible rfl)
                try simp only [Act.put, List.setIfInBounds_toArray, List.set_cons_zero, List.set_cons_succ]
                refine wpAnyH_take (i := 21) (oi := ({ dst := some 135, op := Op.pick (Operand.tmp 118) (Operand.const (Value.bool true)) (Operand.tmp 134), type := 4, pos := "law.go:68", after := #[{ on := 4, ground := Ground.data }, { on := 20, ground := Ground.data }], guard := none } : Oper)) (v := ?_) rfl (by kernel_rfl) (by kernel_rfl) (by kernel_rfl) (fun _ _ _ h => h) (Or.inl ⟨by rfl, ?_⟩) (by assumption) ?_
                rotate_left
                · (intro w hSw; (try dsimp only at hSw); go_simp; try with_reducible rfl)
                try simp only [Act.put, List.setIfInBounds_toArray, List.set_cons_zero, List.set_cons_succ]
                refine wpAnyH_take (i := 22) (oi := ({ dst := some 136, op := Op.move (Operand.tmp 135), type := 4, pos := "law.go:68", after := #[{ on := 21, ground := Ground.data }, { on := 18, ground := Ground.chain }], guard := none } : Oper)) (v := ?_) rfl (by kernel_rfl) (by kernel_rfl) (by kernel_rfl) (fun _ _ _ h => h) (Or.inl ⟨by rfl, ?_⟩) (by assumption) ?_
                rotate_left
                · (intro w hSw; (try dsimp only at hSw); go_simp; try with_reducible rfl)
                try simp only [Act.put, List.setIfInBounds_toArray, List.set_cons_zero, List.set_cons_succ]
                refine wpAnyH_take (i := 23) (oi := ({ dst := some 137, op := Op.move (Operand.tmp 15), type := 3, pos := "law.go:68", after := #[{ on := 22, ground := Ground.guard }], guard := some (22, false) } : Oper)) (v := ?_) rfl (by kernel_rfl) (by kernel_rfl) (by kernel_rfl) (fun _ _ _ h => h) (Or.inl ⟨by rfl, ?_⟩) (by assumption) ?_
                rotate_left
                · (intro w hSw; (try dsimp only at hSw); go_simp; try with_reducible rfl)
                try simp only [Act.put, List.setIfInBounds_toArray, List.set_cons_zero, List.set_cons_succ]
                refine wpAnyH_take (i := 24) (oi := ({ dst := some 138, op := Op.binOp BinOp.lss 3 (Operand.tmp 137) (Operand.const (Value.int IntKind.i64 0)) 3, type := 4, pos := "law.go:68", after := #[{ on := 23, ground := Ground.data }, { on := 22, ground := Ground.guard }], guard := some (22, false) } : Oper)) (v := ?_) rfl (by kernel_rfl) (by kernel_rfl) (by kernel_rfl) (fun _ _ _ h => h) (Or.inl ⟨by rfl, ?_⟩) (by assumption) ?_
                rotate_left
                · (intro w hSw; (try dsimp only at hSw); go_simp; try with_reducible rfl)
                try simp only [Act.put, List.setIfInBounds_toArray, List.set_cons_zero, List.set_cons_succ]
                refine wpAnyH_take (i := 25) (oi := ({ dst := some 139, op := Op.move (Operand.tmp 138), type := 4, pos := "law.go:68", after := #[{ on := 24, ground := Ground.data }, { on := 22, ground := Ground.chain }, { on := 22, ground := Ground.guard }], guard := some (22, false) } : Oper)) (v := ?_) rfl (by kernel_rfl) (by kernel_rfl) (by kernel_rfl) (fun _ _ _ h => h) (Or.inl ⟨by rfl, ?_⟩) (by assumption) ?_
                rotate_left
                · (intro w hSw; (try dsimp only at hSw); go_simp; try with_reducible rfl)
                try simp only [Act.put, List.setIfInBounds_toArray, List.set_cons_zero, List.set_cons_succ]
                refine wpAnyH_take (i := 26) (oi := ({ dst := some 140, op := Op.load 41 (Operand.tmp 13), type := 41, pos := "law.go:68", after := #[{ on := 25, ground := Ground.guard }], guard := some (25, true) } : Oper)) (v := undef) rfl (by kernel_rfl) (by kernel_rfl) (by kernel_rfl) (fun _ _ _ h => h) (Or.inr ⟨by rfl, rfl⟩) (by assumption) ?_
                try simp only [Act.put, List.setIfInBounds_toArray, List.set_cons_zero, List.set_cons_succ]
                refine wpAnyH_take (i := 27) (oi := ({ dst := some 141, op := Op.build 41 #[], type := 41, pos := "law.go:68", after := #[{ on := 25, ground := Ground.guard }], guard := some (25, true) } : Oper)) (v := undef) rfl (by kernel_rfl) (by kernel_rfl) (by kernel_rfl) (fun _ _ _ h => h) (Or.inr ⟨by rfl, rfl⟩) (by assumption) ?_
                try simp only [Act.put, List.setIfInBounds_toArray, List.set_cons_zero, List.set_cons_succ]
                refine wpAnyH_take (i := 28) (oi := ({ dst := some 142, op := Op.binOp BinOp.neq 41 (Operand.tmp 140) (Operand.tmp 141) 41, type := 4, pos := "law.go:68", after := #[{ on := 26, ground := Ground.data }, { on := 27, ground := Ground.data }, { on := 25, ground := Ground.guard }], guard := some (25, true) } : Oper)) (v := undef) rfl (by kernel_rfl) (by kernel_rfl) (by kernel_rfl) (fun _ _ _ h => h) (Or.inr ⟨by rfl, rfl⟩) (by assumption) ?_
                try simp only [Act.put, List.setIfInBounds_toArray, List.set_cons_zero, List.set_cons_succ]
                refine wpAnyH_take (i := 29) (oi := ({ dst := some 143, op := Op.pick (Operand.tmp 139) (Operand.tmp 142) (Operand.const (Value.bool false)), type := 4, pos := "law.go:68", after := #[{ on := 25, ground := Ground.data }, { on := 28, ground := Ground.data }, { on := 22, ground := Ground.guard }], guard := some (22, false) } : Oper)) (v := ?_) rfl (by kernel_rfl) (by kernel_rfl) (by kernel_rfl) (fun _ _ _ h => h) (Or.inl ⟨by rfl, ?_⟩) (by assumption) ?_
                rotate_left
                · (intro w hSw; (try dsimp only at hSw); go_simp; try with_reducible rfl)
                try simp only [Act.put, List.setIfInBounds_toArray, List.set_cons_zero, List.set_cons_succ]
                refine wpAnyH_take (i := 30) (oi := ({ dst := some 144, op := Op.pick (Operand.tmp 136) (Operand.const (Value.bool true)) (Operand.tmp 143), type := 4, pos := "law.go:68", after := #[{ on := 22, ground := Ground.data }, { on := 29, ground := Ground.data }], guard := none } : Oper)) (v := ?_) rfl (by kernel_rfl) (by kernel_rfl) (by kernel_rfl) (fun _ _ _ h => h) (Or.inl ⟨by rfl, ?_⟩) (by assumption) ?_
                rotate_left
                · (intro w hSw; (try dsimp only at hSw); go_simp; try with_reducible rfl)
                try simp only [Act.put, List.setIfInBounds_toArray, List.set_cons_zero, List.set_cons_succ]
                refine wpAnyH_done (by kernel_rfl) ?_ _
                refine NoPanic.normal ?_
                have B9 := Lib.hid (B5.out.keep (CB.out.trans c6))
                clear c6 hs5 hc5 hd5
                go_wp2_with fail
                go_meet
                case rel => exact ⟨_, _, B9.out, u0, by omega⟩
          have tk3 : (x.kd == 3) = false := by simpa using k3
          by_cases k4 : x.kd = 4
          · have tk : (x.kd == 4) = true := by simp [k4]
            clear k4
            have ox1 := old hx1
            go_wp2_with fail
            refine (aroom_any a b S M ys u x.li w3 B1.out.1.2.1).mono ?_
            rintro e w4 ⟨rfl, c4⟩
            have hx4 := c4.keep hx1 (by simp)
            have ox4 := old hx4
            have B4 := Lib.hid (B1.out.keep c4)
            clear c4 hx1 ox1
            by_cases hneg : x.li < 0
            · rw [(room_neg hneg).1, (room_neg hneg).2]
              have tn : decide (0 ≤ x.li) = false := by simp; omega
              go_wp2_with fail
              go_meet
              case rel => exact ⟨_, _, B4.out, u0, by omega⟩
            · have h0 : 0 ≤ x.li := by omega
              have tn : decide (0 ≤ x.li) = true := by simpa using h0
              by_cases hf : 0 ≤ freeI S M ys x.li
              · have HR := Lib.hid (room_yes h0 hf)
                rw [HR.out.1, HR.out.2]
                have tf : decide (freeI S M ys x.li < 0) = false := by simp; omega
                have tf2 : decide (0 ≤ freeI S M ys x.li) = true := by simpa using hf
                clear hf
                go_wp2_with fail
                refine (rfree_ok c d S M ys u x.li w4 B4.out.2.1 h0).mono ?_
                rintro e w5 ⟨rfl, c5⟩
                have hx5 := c5.keep hx4 (by simp)
                have ox5 := old hx5
                have B5 := Lib.hid (B4.out.keep c5)
                clear c5 hx4 ox4
                go_wp2_with fail
                refine (rfree_ok c d S M ys u x.li w5 B5.out.2.1 h0).mono ?_
                rintro e w6 ⟨rfl, c6⟩
                have B6 := Lib.hid (B5.out.keep c6)
                clear c6 hx5 ox5
                go_wp2_with fail
                go_meet
                case rel => exact ⟨_, _, B6.out, u0, by omega⟩
              · have HR := Lib.hid (room_no h0 hf)
                rw [HR.out.1, HR.out.2.1]
                clear hf
                go_wp2_with fail
                refine (rfree_ok c d S M ys u x.li w4 B4.out.2.1 h0).mono ?_
                rintro e w5 ⟨rfl, c5⟩
                rw [HR.out.2.2]
                have hx5 := c5.keep hx4 (by simp)
                have ox5 := old hx5
                have B5 := Lib.hid (B4.out.keep c5)
                clear c5 hx4 ox4
                go_wp2_with fail
                refine (rvictim_ok c d S M ys u x.li w5 B5.out.2.1 h0).mono ?_
                rintro e w6 ⟨rfl, c6⟩
                have hx6 := c6.keep hx5 (by simp)
                have ox6 := old hx6
                have B6 := Lib.hid (B5.out.keep c6)
                clear c6 hx5 ox5
                go_wp2_with fail
                refine (rfree_ok c d S M ys u x.li w6 B6.out.2.1 h0).mono ?_
                rintro e w7 ⟨rfl, c7⟩
                rw [HR.out.2.2]
                have B7 := Lib.hid (B6.out.keep c7)
                clear c7 hx6 ox6
                have tv : (eld (seg M ys (setOf S x.li)) != eld (seg M ys (setOf S x.li))) = false := by simp
                go_wp2_with fail
                go_meet
                case rel => exact ⟨_, _, B7.out, u0, by omega⟩
          have tk4 : (x.kd == 4) = false := by simpa using k4
          have ox1 := old hx1
          go_wp2_with fail
          go_meet
          case rel => exact ⟨ys, u, B1.out, u0, by omega⟩
        case rest =>
          obtain ⟨ys9, u9, hb9, v0, v1⟩ := hcut
          have B9 := Lib.hid hb9
          clear hb9
          rename World => w9
          go_wp2_with fail
          refine (aslots_ok a b S M ys9 u9 _ B9.out.1.2.1).mono ?_
          rintro e w11 ⟨A11, c11, rfl, s11, d11⟩
          have B11 := Lib.hid (B9.out.keep d11)
          have S11 := Lib.hid s11
          clear d11 s11
          go_wp2_with fail
          refine (rslots_ok c d S M ys9 u9 _ B11.out.2.1).mono ?_
          rintro e w12 ⟨A12, c12, rfl, s12, d12⟩
          have B12 := Lib.hid (B11.out.keep d12)
          have S12 := Lib.hid (S11.out.chg d12 (by simp))
          have T12 := Lib.hid s12
          have HLE := Lib.hid (Nat.le_trans (live_le ys9) B12.out.1.good.len64)
          clear d12 s12
          go_wp2_with fail
          refine (same_ok A11 A12 _ c11 c12 (live ys9) _ S12.out T12.out rfl (by have := HLE.out; omega)).mono ?_
          rintro e w13 ⟨rfl, d13⟩
          have B13 := Lib.hid (B12.out.keep d13)
          clear d13
          go_wp2_with fail
          go_roundw
          case rel => exact ⟨k + 1, ys9, u9, by omega, by go_num, B13.out, v0, by omega⟩
          case measure => simp [intOf]; omega
      · obtain rfl : k = N := by omega
        have t1 : decide (k < k) = false := by simp
        go_wp2_with (go_at_call 8; refine (wakes_true _).mono ?_; rintro e w5 ⟨rfl, c5⟩; have C5 := Lib.hid c5; clear c5)
        go_ret
        exact ⟨rfl, B.out.1.1.trans C5.out⟩
  · go_enter Try.func3, Try.ntmps3
    go_wp2_with fail
    refine (anew_bad si wi W hgood).mono ?_
    rintro e w1 ⟨rfl, rfl⟩
    go_wp2_with fail
    refine (rnew_bad si wi W hgood).mono ?_
    rintro e w1 ⟨rfl, rfl⟩
    go_wp2_with fail
    go_loop [11] (fun i => i = .int .i64 0) (fun _ => 0)
    case atStart => rfl
    case round =>
      subst hrel
      rcases Nat.eq_zero_or_pos N with hz | hz
      · have t1 : decide (0 < N) = false := by simp; omega
        go_wp2_with (go_at_call 8; refine (wakes_true _).mono ?_; rintro e w5 ⟨rfl, c5⟩; have C5 := Lib.hid c5; clear c5)
        go_ret
        exact ⟨rfl, C5.out⟩
      · have t1 : decide (0 < N) = true := by simpa using hz
        go_wp2_with (go_at_call 8; refine (wakes_true _).mono ?_; rintro e w5 ⟨rfl, c5⟩; have C5 := Lib.hid c5; clear c5)
        go_ret
        exact ⟨rfl, C5.out⟩
end Go.Proofs.Ytdfejijiocfjhaa
