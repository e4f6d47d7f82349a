/- The document's slots searched: walked. No condition. -/
import Derived.Test.YtadeoflkppiflaaDoorArrb
namespace Go.Proofs.YtadeoflkppiflaaDoor
open Go.RowKit
set_option linter.unusedVariables false
set_option maxHeartbeats 1000000
attribute [local go_sem ↓] append_appS copy_copS clear_clrS make_mkS cell_row frozen_row loadLine storeLine loadSlot storeSlot heap_drew heap_drewN heap_alloc heap_past heap_setCell heap_putRow vs_get slc_st slc_li slc_us
attribute [local go_sem] rowCell_some rowFrozen_some rowHas_some rowIn_some rowPart_full rowPart_lit rowPut_full rowPut_lit rowSet_some size_putRow vs_size vs_one wideLine wideSlot run_loadS run_storeS run_appS run_copS run_clrS run_mkS loadW_at storeW_at fit_all fit_le one_int one_bool one_pointer one_slice allOne_list putRow_new ne_size1 ne_size2 ne_size3 ne_size4 zero8_length line_eq lit8 slc_size slc_one slc_part slc_in fold_slt slc_set_us
attribute [local simp ↓] heap_drew heap_drewN heap_alloc heap_past heap_setCell heap_putRow
attribute [local simp] rowCell_some rowFrozen_some rowHas_some rowIn_some rowPart_full rowPart_lit rowPut_full rowPut_lit rowSet_some size_putRow vs_size fit_all putRow_new ne_size1 ne_size2 ne_size3 ne_size4 zero8_length slc_size


theorem wideRSlot : Wide Tryd.prog 78 11 := ⟨⟨_, Tryd.underlying78, by rfl⟩, by kernel_rfl⟩
theorem loadRSlot (x : Value) : Instr.loadAt 78 x = loadS 78 11 x := rfl
theorem storeRSlot (x y : Value) : Instr.storeAt 78 x y = storeS 78 11 x y := rfl
attribute [local go_sem ↓] loadRSlot storeRSlot
attribute [local go_sem] wideRSlot
theorem rslot_info : (Tryd.prog.info? 78).map (fun i => (i.zero, i.size, i.bytes)) = some (some sltV, 11, 88) := by kernel_rfl
theorem eltRSlot : Elt Tryd.prog 57 78 11 88 sltV Slt.enc where
  slice := Tryd.underlying57
  info := rslot_info
  zero := sltV_size
  zone := sltV_one
  pos := by omega
  len := Slt.len
  one := Slt.one
/-- The document's array at a, with its slots in block b. -/
def RArr (w : World) (a b S W : Nat) (xs : List Slt) (u : Int) : Prop :=
  w.heap[a]? = some (.cells #[.int .i64 S, .int .i64 W, .slice (some ⟨b, 0, none⟩) xs.length xs.length, .int .i64 u] 90 (0, 0)) ∧ w.heap[b]? = some (.cells (sq Slt.enc xs []) 78 (0, 0)) ∧ a ≠ b ∧ Good S W xs
theorem RArr.keep {w w' : World} {a b S W : Nat} {xs : List Slt} {u : Int} {l : List Nat} (h : RArr w a b S W xs u) (hc : Chg l w w') (ha : a ∉ l) (hb : b ∉ l) : RArr w' a b S W xs u :=
  ⟨hc.keep h.1 ha, hc.keep h.2.1 hb, h.2.2⟩
theorem RArr.olda {w : World} {a b S W : Nat} {xs : List Slt} {u : Int} (h : RArr w a b S W xs u) : a < w.heap.size := lt_heap h.1
theorem RArr.oldb {w : World} {a b S W : Nat} {xs : List Slt} {u : Int} (h : RArr w a b S W xs u) : b < w.heap.size := lt_heap h.2.1
theorem RArr.putSlot {w : World} {a b S W : Nat} {xs : List Slt} {u : Int} (h : RArr w a b S W xs u) {k : Nat} {x : Slt} (hx : xs[k]? = some x) (y : Slt) (hg : Good S W (xs.set k y)) : RArr (putRow w b (k * 11) (slc y)) a b S W (xs.set k y) u := by
  have hr : rowHas (w.heap[b]?) (k * 11) (slc y).size = true := by rw [h.2.1, slc_size]; exact slt_has hx [] _
  refine ⟨?_, ?_, h.2.2.1, hg⟩
  · rw [heap_putRow _ _ _ _ _ hr, if_neg h.2.2.1, List.length_set]; exact h.1
  · rw [heap_putRow _ _ _ _ _ hr, if_pos rfl, h.2.1]; exact slt_put hx [] _ _ y
theorem RArr.putUse {w : World} {a b S W : Nat} {xs : List Slt} {u : Int} (h : RArr w a b S W xs u) {k : Nat} {x : Slt} (hx : xs[k]? = some x) (n : Int) (hg : Good S W (xs.set k (x.use n))) : RArr (w.setCell ⟨b, k * 11 + 10, none⟩ (.int .i64 n)) a b S W (xs.set k (x.use n)) u := by
  refine ⟨?_, ?_, h.2.2.1, hg⟩
  · rw [heap_setCell, if_neg h.2.2.1, List.length_set]; exact h.1
  · rw [heap_setCell, if_pos rfl, h.2.1, rowSet_some, slt_use hx]
theorem RArr.next {w : World} {a b S W : Nat} {xs : List Slt} {u : Int} (h : RArr w a b S W xs u) (n : Int) : RArr (w.setCell ⟨a, 3, none⟩ (.int .i64 n)) a b S W xs n := by
  refine ⟨?_, ?_, h.2.2⟩
  · rw [heap_setCell, if_pos rfl, h.1, rowSet_some]; rfl
  · rw [heap_setCell, if_neg (Ne.symm h.2.2.1)]; exact h.2.1
/-- Behind a call that leaves the array so. -/
def RArrTo (w : World) (a b S W : Nat) (xs : List Slt) (u : Int) (v : Value) (e : Ending) (w' : World) : Prop := e = .returned v ∧ Chg [a, b] w w' ∧ RArr w' a b S W xs u
theorem RArrTo.same {w w' : World} {a b S W : Nat} {xs : List Slt} {u : Int} (h : RArr w a b S W xs u) (hc : Chg [] w w') (v : Value) : RArrTo w a b S W xs u v (.returned v) w' :=
  ⟨rfl, hc.mono (by simp), h.keep hc (by simp) (by simp)⟩

/-! ### Sets; searched -/
theorem rgeom_ok (S : Nat) (li : Int) (w : World) (h : S = 1 ∨ S = 2 ∨ S = 4 ∨ S = 8) (h0 : 0 ≤ li) : Calls Tryd.prog 74 #[.int .i64 S, .int .i64 li] w fun e w' => e = .returned (.int .i64 (setOf S li)) ∧ w = w' := by
  obtain ⟨m, rfl⟩ := Int.eq_ofNat_of_zero_le h0
  have t1 : decide ((m : Int) < 0) = false := by simp
  unfold setOf
  rw [Int.toNat_natCast]
  rcases h with rfl | rfl | rfl | rfl
  all_goals
    go_enter Tryd.func74, Tryd.ntmps74
    go_wp2
    go_ret
    exact ⟨by first | rfl | (simp; done) | (simp; omega) | trace_state, rfl⟩
theorem rrest_ok (s : Int) (w : World) : Calls Tryd.prog 72 #[.int .i64 s] w fun e w' => e = .returned (.bool (atRest s)) ∧ w = w' := by
  by_cases h : 1 ≤ s
  · have t1 : decide (1 ≤ s) = true := by simpa using h
    have hr : atRest s = decide (s ≤ 3) := by unfold atRest; rw [t1, Bool.true_and]
    rw [hr]
    go_enter Tryd.func72, Tryd.ntmps72
    go_wp2
    go_ret
    exact ⟨rfl, rfl⟩
  · have t1 : decide (1 ≤ s) = false := by simpa using h
    have hr : atRest s = false := by unfold atRest; rw [t1, Bool.false_and]
    rw [hr]
    go_enter Tryd.func72, Tryd.ntmps72
    go_wp2
    go_ret
    exact ⟨rfl, rfl⟩
theorem rfirst_ok (a b S W : Nat) (xs : List Slt) (u li : Int) (w : World) (h : RArr w a b S W xs u) (h0 : 0 ≤ li) :
    Calls Tryd.prog 71 #[.pointer (some ⟨a, 0, none⟩), .int .i64 li] w fun e w' => e = .returned (.int .i64 (setOf S li * W : Nat)) ∧ ∃ m, w' = w.drewN m := by
  have ha := h.1
  have hg := h.2.2.2
  have oa := old ha
  have hf := hg.fit li
  have hl := hg.len
  have h64 := hg.len64
  have hw8 := hg.way8
  obtain ⟨f, hfe⟩ : ∃ f, setOf S li * W = f := ⟨_, rfl⟩
  have hfe' : (setOf S li : Int) * (W : Int) = (f : Int) := by rw [← hfe, Int.natCast_mul]
  have HS := Lib.hid hg.sets
  rw [hfe] at hf ⊢
  rw [← hl] at hf
  obtain ⟨N, hN⟩ : ∃ N, xs.length = N := ⟨_, rfl⟩
  rw [hN] at hf h64 ha
  have g1 : (f : Int) + (W : Int) ≤ (N : Int) := by omega
  have g2 : (N : Int) ≤ 64 := by omega
  have g4 : (0 : Int) ≤ (f : Int) := by omega
  clear hfe hl hN hg h
  go_enter Tryd.func71, Tryd.ntmps71
  go_wp2
  go_quiet (first | (go_at_call 74; exact quiet_same (rgeom_ok S li _ HS.out h0)))
  go_wp2
  go_ret
  exact ⟨rfl, nq, rfl⟩
theorem rat_ok (a b S W : Nat) (xs : List Slt) (u li : Int) (w : World) (h : RArr w a b S W xs u) :
    Calls Tryd.prog 60 #[.pointer (some ⟨a, 0, none⟩), .int .i64 li] w fun e w' => e = .returned (.int .i64 (hit (pLine li) xs)) ∧ w = w' := by
  have ha := h.1
  have hb := h.2.1
  have h64 := h.2.2.2.len64
  obtain ⟨n, hn⟩ : ∃ n, xs.length = n := ⟨_, rfl⟩
  have HN := Lib.hid hn
  rw [hn] at ha h64
  have g2 : (n : Int) ≤ 64 := by omega
  clear h hn
  go_enter Tryd.func60, Tryd.ntmps60
  go_wp2
  go_loop [5] (fun i => ∃ k : Nat, k ≤ n ∧ i = .int .i64 k ∧ ∀ x ∈ xs.take k, pLine li x = false) (fun i => n - (intOf i).toNat)
  case atStart => exact ⟨0, by omega, rfl, by simp⟩
  case round =>
    obtain ⟨k, hk, rfl, hno⟩ := hrel
    have HNO := Lib.hid hno
    clear hno
    by_cases hlt : k < n
    · obtain ⟨y, hy⟩ : ∃ y, xs[k]? = some y := ⟨xs[k]'(by rw [HN.out]; exact hlt), List.getElem?_eq_getElem _⟩
      have r1 := slt_st hy []
      have r2 := slt_li hy []
      have g1 : (k : Int) < (n : Int) := by omega
      have g0 : (0 : Int) ≤ (k : Int) := by omega
      have HY := Lib.hid hy
      clear hy
      by_cases hs : y.st = 0
      · have t1 : (y.st != 0) = false := by simp [hs]
        have HP := Lib.hid (take_all HY.out (show pLine li y = false by simp [pLine, hs]) HNO.out)
        go_wp2
        go_round
        case rel => exact ⟨k + 1, by omega, by go_num, HP.out⟩
        case measure => simp [intOf]; omega
      · have t1 : (y.st != 0) = true := by simp [hs]
        by_cases hli : y.li = li
        · have t2 : (y.li == li) = true := by simp [hli]
          have HP := Lib.hid (hit_at HY.out (show pLine li y = true by simp [pLine, hs, hli]) HNO.out)
          go_wp2
          go_ret
          exact ⟨by rw [HP.out]; rfl, rfl⟩
        · have t2 : (y.li == li) = false := by simp [hli]
          have HP := Lib.hid (take_all HY.out (show pLine li y = false by simp [pLine, hs, hli]) HNO.out)
          go_wp2
          go_round
          case rel => exact ⟨k + 1, by omega, by go_num, HP.out⟩
          case measure => simp [intOf]; omega
    · obtain rfl : k = n := by omega
      go_wp2
      go_ret
      exact ⟨by rw [hit_none (by have := HNO.out; rw [← HN.out, List.take_length] at this; exact this)]; rfl, rfl⟩
end Go.Proofs.YtadeoflkppiflaaDoor
