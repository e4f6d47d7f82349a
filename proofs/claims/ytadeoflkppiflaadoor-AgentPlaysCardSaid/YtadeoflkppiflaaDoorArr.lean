/- What the calls of package array return, and what they leave: walked. No condition. -/
import Derived.Test.YtadeoflkppiflaaDoorArrm
import Derived.Test.YtadeoflkppiflaaDoorLines
import Derived.Deep.CutBlock
namespace Go.Proofs.YtadeoflkppiflaaDoor
open Go.RowKit
set_option linter.unusedVariables false
theorem wideSlot : Wide Tryd.prog 72 11 := ⟨⟨_, Tryd.underlying72, by rfl⟩, by kernel_rfl⟩
theorem loadSlot (x : Value) : Instr.loadAt 72 x = loadS 72 11 x := rfl
theorem storeSlot (x y : Value) : Instr.storeAt 72 x y = storeS 72 11 x y := rfl
attribute [local go_sem ↓] append_appS copy_copS clear_clrS make_mkS cell_row frozen_row loadLine storeLine loadSlot storeSlot heap_drew heap_drewN heap_alloc heap_past heap_setCell heap_putRow vs_get slc_st slc_li slc_us
attribute [local go_sem] rowCell_some rowFrozen_some rowHas_some rowIn_some rowPart_full rowPart_lit rowPut_full rowPut_lit rowSet_some size_putRow vs_size vs_one wideLine wideSlot run_loadS run_storeS run_appS run_copS run_clrS run_mkS loadW_at storeW_at fit_all fit_le one_int one_bool one_pointer one_slice allOne_list putRow_new ne_size1 ne_size2 ne_size3 ne_size4 zero8_length line_eq lit8 slc_size slc_one slc_part slc_in
attribute [local simp ↓] heap_drew heap_drewN heap_alloc heap_past heap_setCell heap_putRow
attribute [local simp] rowCell_some rowFrozen_some rowHas_some rowIn_some rowPart_full rowPart_lit rowPut_full rowPut_lit rowSet_some size_putRow vs_size fit_all putRow_new ne_size1 ne_size2 ne_size3 ne_size4 zero8_length slc_size

theorem slot_info : (Tryd.prog.info? 72).map (fun i => (i.zero, i.size, i.bytes)) = some (some sltV, 11, 88) := by kernel_rfl
theorem eltSlot : Elt Tryd.prog 55 72 11 88 sltV Slt.enc where
  slice := Tryd.underlying55
  info := slot_info
  zero := sltV_size
  zone := sltV_one
  pos := by omega
  len := Slt.len
  one := Slt.one

/-- A callee that changes nothing, within a region that only reads. -/
theorem quiet_same {P : Program} {f : FuncId} {args : Array Value} {w : World} {n : Nat} {v : Value} (h : Calls P f args (w.drewN n) fun e w' => e = .returned v ∧ w.drewN n = w') : Calls P f args (w.drewN n) fun e w'' => e = .returned v ∧ ∃ m, w'' = w.drewN m :=
  h.mono fun _ _ ⟨he, hm⟩ => ⟨he, n, hm.symm⟩

/-! ### Sets -/
theorem geomSet_ok (S : Nat) (li : Int) (w : World) (h : S = 1 ∨ S = 2 ∨ S = 4 ∨ S = 8) (h0 : 0 ≤ li) : Calls Tryd.prog 69 #[.int .i64 S, .int .i64 li] w fun e w' => e = .returned (.int .i64 (setOf S li)) ∧ w = w' := by
  obtain ⟨m, rfl⟩ := Int.eq_ofNat_of_zero_le h0
  have t1 : decide ((m : Int) < 0) = false := by simp
  unfold setOf
  rw [Int.toNat_natCast]
  rcases h with rfl | rfl | rfl | rfl
  all_goals
    go_enter Tryd.func69, Tryd.ntmps69
    go_wp2
    go_ret
    exact ⟨by first | rfl | (simp; done) | (simp; omega) | trace_state, rfl⟩
theorem isSets_yes (S : Nat) (w : World) (h : S = 1 ∨ S = 2 ∨ S = 4 ∨ S = 8) : Calls Tryd.prog 55 #[.int .i64 S] w fun e w' => e = .returned (.bool true) ∧ w = w' := by
  rcases h with rfl | rfl | rfl | rfl
  all_goals
    go_enter Tryd.func55, Tryd.ntmps55
    go_wp2
    go_ret
    exact ⟨rfl, rfl⟩
theorem isSets_no (s : Int) (w : World) (h : ¬ (s = 1 ∨ s = 2 ∨ s = 4 ∨ s = 8)) : Calls Tryd.prog 55 #[.int .i64 s] w fun e w' => e = .returned (.bool false) ∧ w = w' := by
  have t1 : (s == 1) = false := by simp; omega
  have t2 : (s == 2) = false := by simp; omega
  have t4 : (s == 4) = false := by simp; omega
  have t8 : (s == 8) = false := by simp; omega
  go_enter Tryd.func55, Tryd.ntmps55
  go_wp2
  go_ret
  exact ⟨rfl, rfl⟩
theorem atRest_ok (s : Int) (w : World) : Calls Tryd.prog 73 #[.int .i64 s] w fun e w' => e = .returned (.bool (atRest s)) ∧ w = w' := by
  by_cases h : s = 1 ∨ s = 2 ∨ s = 3
  · rcases h with rfl | rfl | rfl
    all_goals
      go_enter Tryd.func73, Tryd.ntmps73
      go_wp2
      go_ret
      exact ⟨rfl, rfl⟩
  · have t1 : (s == 1) = false := by simp; omega
    have t2 : (s == 2) = false := by simp; omega
    have t3 : (s == 3) = false := by simp; omega
    have hr : atRest s = false := by unfold atRest; simp; omega
    rw [hr]
    go_enter Tryd.func73, Tryd.ntmps73
    go_wp2
    go_ret
    exact ⟨rfl, rfl⟩

/-! ### Searched -/
theorem wayOf_ok (A : Option Addr) (n c : Nat) (li : Int) (ys : List Slt) (w : World) (h : Sl w 11 A n (cat Slt.enc ys)) (hn : n = ys.length) (hn8 : n ≤ 100000) :
    Calls Tryd.prog 57 #[.slice A n c, .int .i64 li] w fun e w' => e = .returned (.int .i64 (hit (pLine li) ys)) ∧ Chg [] w w' := by
  have H := Lib.hid h
  have HN := Lib.hid hn
  clear h hn
  go_enter Tryd.func57, Tryd.ntmps57
  go_wp2
  go_loopw [9] (fun i wr => ∃ k : Nat, k ≤ n ∧ i = .int .i64 k ∧ Chg [] w wr ∧ ∀ x ∈ ys.take k, pLine li x = false) (fun i _ => n - (intOf i).toNat)
  case atStart => exact ⟨0, by omega, rfl, Chg.refl _ _, by simp⟩
  case round =>
    obtain ⟨k, hk, rfl, hc, hno⟩ := hrel
    have HC := Lib.hid hc
    have HNO := Lib.hid hno
    clear hno hc
    by_cases hlt : k < n
    · obtain ⟨b, o, rfl⟩ := H.out.addr (by omega)
      obtain ⟨y, hy⟩ : ∃ y, ys[k]? = some y := ⟨ys[k]'(by rw [← HN.out]; exact hlt), List.getElem?_eq_getElem _⟩
      obtain ⟨cs, t, f, hb, hce, hpa⟩ := (H.out.chg HC.out (by simp)).elem (by omega) hlt (cat_part Slt.len hy)
      obtain ⟨r1, r2⟩ := hpa 0 11 (by omega)
      have e11 : ((Slt.enc y).drop 0 |>.take 11).toArray = slc y := by rw [List.drop_zero, List.take_of_length_le (by rw [Slt.len]; exact Nat.le_refl _)]; rfl
      rw [e11, Nat.add_zero] at r2
      rw [Nat.add_zero] at r1
      have g1 : (k : Int) < (n : Int) := by omega
      have g0 : (0 : Int) ≤ (k : Int) := by omega
      have g2 : (n : Int) ≤ 100000 := by omega
      have HY := Lib.hid hy
      clear hy hce hpa e11
      by_cases hs : y.st = 0
      · have t1 : (y.st != 0) = false := by simp [hs]
        have t1' : (y.st == 0) = true := by simp [hs]
        have HP := Lib.hid (take_all HY.out (show pLine li y = false by simp [pLine, hs]) HNO.out)
        go_wp2
        go_roundw
        case rel => exact ⟨k + 1, by omega, by go_num, HC.out.alloc _, HP.out⟩
        case measure => simp [intOf]; omega
      · have t1 : (y.st != 0) = true := by simp [hs]
        have t1' : (y.st == 0) = false := by simp [hs]
        by_cases hli : y.li = li
        · have t2 : (y.li == li) = true := by simp [hli]
          have HP := Lib.hid (hit_at HY.out (show pLine li y = true by simp [pLine, hs, hli]) HNO.out)
          go_wp2
          go_ret
          exact ⟨by rw [HP.out]; rfl, HC.out.alloc _⟩
        · have t2 : (y.li == li) = false := by simp [hli]
          have HP := Lib.hid (take_all HY.out (show pLine li y = false by simp [pLine, hs, hli]) HNO.out)
          go_wp2
          go_roundw
          case rel => exact ⟨k + 1, by omega, by go_num, HC.out.alloc _, HP.out⟩
          case measure => simp [intOf]; omega
    · obtain rfl : k = n := by omega
      go_wp2
      go_ret
      exact ⟨by rw [hit_none (by have := HNO.out; rw [HN.out, List.take_length] at this; exact this)]; rfl, HC.out⟩
theorem emptyWay_ok (A : Option Addr) (n c : Nat) (ys : List Slt) (w : World) (h : Sl w 11 A n (cat Slt.enc ys)) (hn : n = ys.length) (hn8 : n ≤ 100000) :
    Calls Tryd.prog 63 #[.slice A n c] w fun e w' => e = .returned (.int .i64 (hit pFree ys)) ∧ Chg [] w w' := by
  have H := Lib.hid h
  have HN := Lib.hid hn
  clear h hn
  go_enter Tryd.func63, Tryd.ntmps63
  go_wp2
  go_loopw [7] (fun i wr => ∃ k : Nat, k ≤ n ∧ i = .int .i64 k ∧ Chg [] w wr ∧ ∀ x ∈ ys.take k, pFree x = false) (fun i _ => n - (intOf i).toNat)
  case atStart => exact ⟨0, by omega, rfl, Chg.refl _ _, by simp⟩
  case round =>
    obtain ⟨k, hk, rfl, hc, hno⟩ := hrel
    have HC := Lib.hid hc
    have HNO := Lib.hid hno
    clear hno hc
    by_cases hlt : k < n
    · obtain ⟨b, o, rfl⟩ := H.out.addr (by omega)
      obtain ⟨y, hy⟩ : ∃ y, ys[k]? = some y := ⟨ys[k]'(by rw [← HN.out]; exact hlt), List.getElem?_eq_getElem _⟩
      obtain ⟨cs, t, f, hb, hce, hpa⟩ := (H.out.chg HC.out (by simp)).elem (by omega) hlt (cat_part Slt.len hy)
      obtain ⟨r1, r2⟩ := hpa 0 11 (by omega)
      have e11 : ((Slt.enc y).drop 0 |>.take 11).toArray = slc y := by rw [List.drop_zero, List.take_of_length_le (by rw [Slt.len]; exact Nat.le_refl _)]; rfl
      rw [e11, Nat.add_zero] at r2
      rw [Nat.add_zero] at r1
      have g1 : (k : Int) < (n : Int) := by omega
      have g0 : (0 : Int) ≤ (k : Int) := by omega
      have g2 : (n : Int) ≤ 100000 := by omega
      have HY := Lib.hid hy
      clear hy hce hpa e11
      by_cases hs : y.st = 0
      · have t1 : (y.st == 0) = true := by simp [hs]
        have HP := Lib.hid (hit_at HY.out (show pFree y = true by simp [pFree, hs]) HNO.out)
        go_wp2
        go_ret
        exact ⟨by rw [HP.out]; rfl, HC.out.alloc _⟩
      · have t1 : (y.st == 0) = false := by simp [hs]
        have HP := Lib.hid (take_all HY.out (show pFree y = false by simp [pFree, hs]) HNO.out)
        go_wp2
        go_roundw
        case rel => exact ⟨k + 1, by omega, by go_num, HC.out.alloc _, HP.out⟩
        case measure => simp [intOf]; omega
    · obtain rfl : k = n := by omega
      go_wp2
      go_ret
      exact ⟨by rw [hit_none (by have := HNO.out; rw [HN.out, List.take_length] at this; exact this)]; rfl, HC.out⟩
/-- The element at hand, as it lies in memory. -/
theorem slt_elem {w wr : World} {l : List Nat} {n b o k : Nat} {ys : List Slt} {y : Slt} (h : Sl w 11 (some ⟨b, o, none⟩) n (cat Slt.enc ys)) (hc : Chg l w wr) (hb : b ∉ l) (hk : k < n) (hy : ys[k]? = some y) :
    ∃ c t f, wr.heap[b]? = some (.cells c t f) ∧ rowIn (some (.cells c t f)) (o + k * 11) 11 = true ∧ rowPart (some (.cells c t f)) (o + k * 11) 11 = slc y := by
  obtain ⟨cs, t, f, hb, hce, hpa⟩ := (h.chg hc (by simpa using hb)).elem (by omega) hk (cat_part Slt.len hy)
  obtain ⟨r1, r2⟩ := hpa 0 11 (by omega)
  have e11 : ((Slt.enc y).drop 0 |>.take 11).toArray = slc y := by rw [List.drop_zero, List.take_of_length_le (by rw [Slt.len]; exact Nat.le_refl _)]; rfl
  rw [e11, Nat.add_zero] at r2
  rw [Nat.add_zero] at r1
  exact ⟨cs, t, f, hb, r1, r2⟩
theorem eldest_ok (A : Option Addr) (n c : Nat) (ys : List Slt) (w : World) (h : Sl w 11 A n (cat Slt.enc ys)) (hn : n = ys.length) (hn8 : n ≤ 100000) :
    Calls Tryd.prog 70 #[.slice A n c] w fun e w' => e = .returned (.int .i64 (eld ys)) ∧ Chg [] w w' := by
  have H := Lib.hid h
  have HN := Lib.hid hn
  clear h hn
  go_enter Tryd.func70, Tryd.ntmps70
  go_wp2
  go_loopw [9, 3, 4] (fun i s3 s4 wr => ∃ (k : Nat) (p q : Int), k ≤ n ∧ i = .int .i64 k ∧ s3 = .int .i64 p ∧ s4 = .int .i64 q ∧ Chg [] w wr ∧ eldS (ys.take k) = (p, q)) (fun i _ _ _ => n - (intOf i).toNat)
  case atStart => exact ⟨0, -1, 0, by omega, rfl, rfl, rfl, Chg.refl _ _, rfl⟩
  case round =>
    obtain ⟨k, p, q, hk, rfl, rfl, rfl, hc, hno⟩ := hrel
    have HC := Lib.hid hc
    have HNO := Lib.hid hno
    clear hno hc
    by_cases hlt : k < n
    · obtain ⟨b, o, rfl⟩ := H.out.addr (by omega)
      obtain ⟨y, hy⟩ : ∃ y, ys[k]? = some y := ⟨ys[k]'(by rw [← HN.out]; exact hlt), List.getElem?_eq_getElem _⟩
      obtain ⟨cs, t, f, hb, r1, r2⟩ := slt_elem H.out HC.out (by simp) hlt hy
      have g1 : (k : Int) < (n : Int) := by omega
      have g0 : (0 : Int) ≤ (k : Int) := by omega
      have g2 : (n : Int) ≤ 100000 := by omega
      have HY := Lib.hid (show eldS (ys.take (k + 1)) = eldStep (p, q) y by rw [eldS_take hy, HNO.out])
      clear hy
      by_cases hr : (atRest y.st && (decide (p < 0) || decide (y.us < q))) = true
      · have HP := Lib.hid (show eldS (ys.take (k + 1)) = (y.li, y.us) by rw [HY.out]; unfold eldStep; rw [if_pos hr])
        rw [Bool.and_eq_true] at hr
        obtain ⟨hr1, hr2⟩ := hr
        by_cases hp : p < 0
        · have t1 : decide (p < 0) = true := by simpa using hp
          clear hr2
          go_wp2_with (go_at_call 73; refine (atRest_ok _ _).mono ?_; rintro e w' ⟨rfl, rfl⟩)
          go_quiet (fail)
          go_wp2
          go_roundw
          case rel => exact ⟨k + 1, _, _, by omega, by go_num, rfl, rfl, (HC.out.alloc _).drewN _, HP.out⟩
          case measure => simp [intOf]; omega
        · have t1 : decide (p < 0) = false := by simpa using hp
          have t2 : decide (y.us < q) = true := by rw [t1] at hr2; simpa using hr2
          clear hr2
          go_wp2_with (go_at_call 73; refine (atRest_ok _ _).mono ?_; rintro e w' ⟨rfl, rfl⟩)
          go_quiet (fail)
          go_wp2
          go_roundw
          case rel => exact ⟨k + 1, _, _, by omega, by go_num, rfl, rfl, (HC.out.alloc _).drewN _, HP.out⟩
          case measure => simp [intOf]; omega
      · have HP := Lib.hid (show eldS (ys.take (k + 1)) = (p, q) by rw [HY.out]; unfold eldStep; rw [if_neg hr])
        by_cases hr1 : atRest y.st = true
        · rw [hr1, Bool.true_and] at hr
          have t1 : decide (p < 0) = false := by simp at hr; simp; omega
          have t2 : decide (y.us < q) = false := by simp at hr; simp; omega
          clear hr
          go_wp2_with (go_at_call 73; refine (atRest_ok _ _).mono ?_; rintro e w' ⟨rfl, rfl⟩)
          go_roundw
          case rel => exact ⟨k + 1, _, _, by omega, by go_num, rfl, rfl, HC.out.alloc _, HP.out⟩
          case measure => simp [intOf]; omega
        · have hr1 : atRest y.st = false := by simpa using hr1
          clear hr
          go_wp2_with (go_at_call 73; refine (atRest_ok _ _).mono ?_; rintro e w' ⟨rfl, rfl⟩)
          go_roundw
          case rel => exact ⟨k + 1, _, _, by omega, by go_num, rfl, rfl, HC.out.alloc _, HP.out⟩
          case measure => simp [intOf]; omega
    · obtain rfl : k = n := by omega
      go_wp2
      go_ret
      exact ⟨by have := HNO.out; rw [HN.out, List.take_length] at this; unfold eld; rw [this]; rfl, HC.out⟩

/-! ### The array -/
/-- The array at a has so many sets and ways, these slots, in block b, and gave the number u last. -/
def Arr (w : World) (a b S W : Nat) (xs : List Slt) (u : Int) : Prop :=
  w.heap[a]? = some (.cells #[.int .i64 S, .int .i64 W, .slice (some ⟨b, 0, none⟩) xs.length xs.length, .int .i64 u] 92 (0, 0)) ∧ w.heap[b]? = some (.cells (sq Slt.enc xs []) 72 (0, 0)) ∧ a ≠ b ∧ Good S W xs
theorem Arr.keep {w w' : World} {a b S W : Nat} {xs : List Slt} {u : Int} {l : List Nat} (h : Arr w a b S W xs u) (hc : Chg l w w') (ha : a ∉ l) (hb : b ∉ l) : Arr w' a b S W xs u :=
  ⟨hc.keep h.1 ha, hc.keep h.2.1 hb, h.2.2⟩
theorem Arr.olda {w : World} {a b S W : Nat} {xs : List Slt} {u : Int} (h : Arr w a b S W xs u) : a < w.heap.size := lt_heap h.1
theorem Arr.oldb {w : World} {a b S W : Nat} {xs : List Slt} {u : Int} (h : Arr w a b S W xs u) : b < w.heap.size := lt_heap h.2.1
theorem Arr.sl {w : World} {a b S W : Nat} {xs : List Slt} {u : Int} (h : Arr w a b S W xs u) (li : Int) : Sl w 11 (some ⟨b, setOf S li * W * 11, none⟩) W (cat Slt.enc (seg W xs (setOf S li))) := by
  have hg := h.2.2.2
  have hf := hg.fit li
  refine ⟨by rw [cat_length Slt.len, hg.seg_len], .inr ⟨b, _, _, _, _, rfl, h.2.1, ?_⟩⟩
  rw [sq_toList, List.append_nil, cat_drop Slt.len, cat_take Slt.len]; rfl
/-- The slots' own cells. -/
theorem aset_nil (li : Int) (w : World) : Calls Tryd.prog 56 #[.pointer none, .int .i64 li] w fun e w' => e = .returned (.slice none 0 0) ∧ w = w' := by
  go_enter Tryd.func56, Tryd.ntmps56
  go_wp2
  go_ret
  exact ⟨rfl, rfl⟩
theorem aset_neg (a : Addr) (li : Int) (w : World) (h : li < 0) : Calls Tryd.prog 56 #[.pointer (some a), .int .i64 li] w fun e w' => e = .returned (.slice none 0 0) ∧ w = w' := by
  have t1 : decide (li < 0) = true := by simpa using h
  go_enter Tryd.func56, Tryd.ntmps56
  go_wp2
  go_ret
  exact ⟨rfl, rfl⟩
theorem aset_ok (a b S W : Nat) (xs : List Slt) (u li : Int) (w : World) (h : Arr w a b S W xs u) (h0 : 0 ≤ li) :
    Calls Tryd.prog 56 #[.pointer (some ⟨a, 0, none⟩), .int .i64 li] w fun e w' => e = .returned (.slice (some ⟨b, setOf S li * W * 11, none⟩) W W) ∧ Chg [] w w' := by
  obtain ⟨ha, hb, hab, hg⟩ := h
  have t1 : decide (li < 0) = false := by simp; omega
  have oa := old ha
  have hf := hg.fit li
  have hl := hg.len
  have h64 := hg.len64
  have hw8 := hg.way8
  have hw1 := hg.way1
  obtain ⟨f, hfe⟩ : ∃ f, setOf S li * W = f := ⟨_, rfl⟩
  have hfe' : (setOf S li : Int) * (W : Int) = (f : Int) := by rw [← hfe, Int.natCast_mul]
  have HS := Lib.hid hg.sets
  rw [hfe] at hf ⊢
  rw [← hl] at hf
  obtain ⟨N, hN⟩ : ∃ N, xs.length = N := ⟨_, rfl⟩
  rw [hN] at hf h64 ha
  have g1 : (f : Int) + (W : Int) ≤ (N : Int) := by omega
  have g2 : (N : Int) ≤ 64 := by omega
  have g3 : (1 : Int) ≤ (W : Int) := by omega
  have g4 : (0 : Int) ≤ (f : Int) := by omega
  clear hfe hl hN hg
  go_enter Tryd.func56, Tryd.ntmps56
  go_wp2
  go_quiet (first | (go_at_call 69; exact quiet_same (geomSet_ok S li _ HS.out h0)))
  go_wp2
  go_ret
  exact ⟨by rw [Nat.add_sub_cancel_left]; rfl, (Chg.refl _ _).drewN _⟩
end Go.Proofs.YtadeoflkppiflaaDoor
