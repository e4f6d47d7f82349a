/- Entries put into a queue, told, read: walked. No condition. -/
import Derived.Test.YtaignekkhfjicaaWpq
namespace Go.Proofs.Ytaignekkhfjicaa
open Go.RowKit
set_option linter.unusedVariables false
attribute [local go_sem ↓] append_appS copy_copS clear_clrS make_mkS cell_row frozen_row loadLine storeLine loadEnt storeEnt heap_drew heap_drewN heap_alloc heap_past heap_setCell heap_putRow vs_get entc_pos
attribute [local go_sem] rowCell_some rowFrozen_some rowHas_some rowIn_some rowPart_full rowPart_lit rowPut_full rowPut_lit rowSet_some size_putRow vs_size vs_one wideLine wideEnt run_loadS run_storeS run_appS run_copS run_clrS run_mkS loadW_at storeW_at fit_all fit_le one_int one_bool one_pointer one_slice allOne_list putRow_new ne_size1 ne_size2 ne_size3 ne_size4 zero8_length lines_nil line_eq lit8 entc_size entc_one entc_part entc_in entc_made fold_ent fold_entc
attribute [local simp ↓] heap_drew heap_drewN heap_alloc heap_past heap_setCell heap_putRow
attribute [local simp] rowCell_some rowFrozen_some rowHas_some rowIn_some rowPart_full rowPart_lit rowPut_full rowPut_lit rowSet_some size_putRow vs_size fit_all putRow_new ne_size1 ne_size2 ne_size3 ne_size4 zero8_length entc_size


/-- Behind a call that leaves the queue with these entries: its block is the same one or new. -/
def QPut (w : World) (q be g n room : Nat) (es : List Ent) (v : Value) (e : Ending) (w' : World) : Prop :=
  e = .returned v ∧ ∃ be', (be' = be ∨ w.heap.size ≤ be') ∧ Chg [q, be] w w' ∧ Que w' q be' g n room es
theorem ent_slice (w : World) (e : Ent) : Sl ((w.alloc (.cells (entc e) 82)).drew) 9 (some ⟨w.heap.size, 0, none⟩) 1 (cat Ent.enc [e]) :=
  ⟨by rw [cat_length Ent.len]; rfl, .inr ⟨w.heap.size, 0, entc e, 82, (0, 0), rfl, by simp, by rw [cat_one]; simp [entc, Ent.len, List.take_of_length_le]⟩⟩
theorem push_ok (q be g n room : Nat) (es : List Ent) (x : Ent) (w : World) (hq : Que w q be g n room es) (hi : x.pos < n) (hr : es.length < room) :
    Calls Try.prog 13 #[.pointer (some ⟨q, 0, none⟩), .int .i64 x.pos, .agg (vs x.l)] w (QPut w q be g n room (es ++ [x]) (.int .i64 0)) := by
  have HQ := Lib.hid hq
  have HL := Lib.hid x.h
  obtain ⟨⟨A, cap, hq, hv⟩, _⟩ := hq
  have HV := Lib.hid hv
  have oq := old hq
  have t1 : decide ((x.pos : Int) < 0) = false := by simp
  have t2 : decide (n ≤ x.pos) = false := by simp; omega
  have t3 : decide (room ≤ es.length) = false := by simpa using hr
  have HR := Lib.hid hr
  have hl8 := x.h
  clear hr hv
  go_enter Try.func13, Try.ntmps13
  go_wp2
  go_quiet (fail)
  go_wp2_with fail
  have hbox : ((w.alloc (.cells (vs x.l) 40)).drewN nq).heap[w.heap.size]? = some (.cells (vs x.l) 40 (0, 0)) := by simp
  have c1 := ((Chg.refl [] w).alloc (.cells (vs x.l) 40)).drewN nq
  have HZ := Lib.hid (show ((w.alloc (.cells (vs x.l) 40)).drewN nq).heap.size = w.heap.size + 1 by simp)
  generalize (w.alloc (.cells (vs x.l) 40)).drewN nq = w1 at hbox c1 HZ ⊢
  have hq1 := c1.keep hq (by simp)
  have hv1 := HV.out.keep c1 (by simp)
  have oq1 := old hq1
  have obox := old hbox
  have HC1 := Lib.hid c1
  have ca := ((Chg.refl [] w1).alloc (.cells (entc x) 82)).drew
  obtain ⟨be', cap', A', w2, happ, hv2, hbe, hc2, hqq⟩ := (hv1.keep ca (by simp)).app (ty := 78) eltEnt (oq1.chg ca) (ent_slice w1 x) (c := 1) rfl (by have := HR.out; have := HQ.out.2.2.2.1; omega) (by have := HR.out; have := HQ.out.2.2.2.1; unfold maxLen; omega)
  have hq2 : w2.heap[q]? = some (.cells #[.pointer (some ⟨g, 0, none⟩), .int .i64 n, .int .i64 room, .slice A es.length cap] 80 (0, 0)) := by rw [hqq]; exact ca.keep hq1 (by simp)
  have HV2 := Lib.hid hv2
  have HB := Lib.hid hbe
  have HC2 := Lib.hid hc2
  have HCA := Lib.hid ca
  clear hv1 hv2 hqq hbe hc2 ca c1
  go_region
  all_goals
    go_wp2
    go_ret
    refine ⟨rfl, be', ?_, ?_, ⟨A', cap', ?_, ?_⟩, ?_, HQ.out.2.2.1, HQ.out.2.2.2.1, HQ.out.2.2.2.2.1, HQ.out.2.2.2.2.2.1, HQ.out.2.2.2.2.2.2.snoc hi⟩
    · have h1 := HB.out
      have h2 := HZ.out
      have h3 : ((w1.alloc (.cells (entc x) 82)).drew).heap.size = w1.heap.size + 1 := by simp
      omega
    · exact (((HC1.out.trans HCA.out).mono (l' := [q, be]) (by simp)).trans' HC2.out (by simp)).setCell _ _ _ (.inl (by simp))
    · simp [hq2]
    · exact HV2.out.keep ((Chg.refl [q] w2).setCell _ _ _ (.inl (by simp))) (by have := (HV2.out.there (by simp)).1; simpa using this)
    · have := HR.out; simp; omega

/-! ### Told -/
theorem run_make_ints (w : World) (n : Nat) (hn : n ≤ 100000) : mkR Try.prog 56 (.int .i64 n) (.int .i64 n) w = .ok (.slice (some ⟨w.heap.size, 0, none⟩) n n) (w.alloc (.cells (is (List.replicate n 0)) 3)) := by
  obtain ⟨i0, hi0, hz0, hz1, hz2⟩ := info_parts (show (Try.prog.info? 3).map (fun i => (i.zero, i.size, i.bytes)) = some (some (.int .i64 0), 1, 8) by kernel_rfl)
  have := run_make (P := Try.prog) w 56 3 i0 _ Try.underlying56 hi0 hz0 .i64 .i64 n n (by omega) (by omega) (by rw [hz2]; omega) (by omega)
  simp only [Int.toNat_natCast, hz1, Nat.mul_one] at this
  rw [← made_is]
  exact this
/-- A slice of integers that was made. -/
def Told (w0 : World) (xs : List Int) (e : Ending) (w' : World) : Prop := ∃ A c, e = .returned (.slice A xs.length c) ∧ Sl w' 1 A xs.length (xs.map (Value.int .i64)) ∧ Chg [] w0 w'
theorem qlines_nil (w : World) : Calls Try.prog 25 #[.pointer none] w fun e w' => e = .returned (.slice none 0 0) ∧ w = w' := by
  go_enter Try.func25, Try.ntmps25
  go_wp2
  go_ret
  exact ⟨rfl, rfl⟩
theorem qlines_ok (q be g n room : Nat) (es : List Ent) (w : World) (hq : Que w q be g n room es) : Calls Try.prog 25 #[.pointer (some ⟨q, 0, none⟩)] w (Told w (poss es)) := by
  have HQ := Lib.hid hq
  have hle : es.length ≤ 16 := by have := hq.2.1; have := hq.2.2.2.1; omega
  obtain ⟨⟨A, cap, hq, hv⟩, _⟩ := hq
  have HV := Lib.hid hv
  have oq := old hq
  have hmk := run_make_ints w es.length (by omega)
  have c1 := (Chg.refl [] w).alloc (.cells (is (List.replicate es.length 0)) 3)
  have hb1 : (w.alloc (.cells (is (List.replicate es.length 0)) 3)).heap[w.heap.size]? = some (.cells (is (List.replicate es.length 0)) 3 (0, 0)) := by simp
  have HZ := Lib.hid (show (w.alloc (.cells (is (List.replicate es.length 0)) 3)).heap.size = w.heap.size + 1 by simp)
  generalize w.alloc (.cells (is (List.replicate es.length 0)) 3) = w1 at hmk c1 hb1 HZ
  have hq1 := c1.keep hq (by simp)
  have HC1 := Lib.hid c1
  have HB1 := Lib.hid hb1
  have HV1 := Lib.hid (HV.out.keep c1 (by simp))
  have HO := Lib.hid (HQ.out.olde.lt)
  clear hv c1 hb1
  go_enter Try.func25, Try.ntmps25
  go_wp2
  go_loopw [19] (fun i wr => ∃ k : Nat, k ≤ es.length ∧ i = .int .i64 k ∧ Chg [w.heap.size] w1 wr ∧ wr.heap[w.heap.size]? = some (.cells (is (posFill es k)) 3 (0, 0))) (fun i _ => es.length - (intOf i).toNat)
  case atStart => exact ⟨0, by omega, rfl, Chg.refl _ _, by rw [posFill_zero]; exact HB1.out⟩
  case round =>
    obtain ⟨k, hk, rfl, hc, hb⟩ := hrel
    by_cases hlt : k < es.length
    · obtain ⟨e, he⟩ : ∃ e, es[k]? = some e := ⟨es[k], List.getElem?_eq_getElem hlt⟩
      obtain ⟨_, rfl, r, hbe, _⟩ := HV1.out.there (by omega)
      have hbr := hc.keep hbe (by have := HO.out; simp; omega)
      have ob := old hb
      have obe := old hbr
      have g1 : (k : Int) < (es.length : Int) := by omega
      have g0 : (0 : Int) ≤ (k : Int) := by omega
      have rp := ent_row he r 82 (0, 0)
      have ri := ent_rowIn he r 82 (0, 0)
      have hs := Lib.hid (posFill_succ he)
      have hln := posFill_length es k hk
      obtain ⟨was, e1⟩ : ∃ v, (is (posFill es k))[k]? = some v := ⟨_, Array.getElem?_eq_getElem (by rw [is_size, hln]; exact hlt)⟩
      have HLN := Lib.hid hln
      have HE := Lib.hid he
      clear hbe hln he
      go_wp2
      go_roundw
      case rel => exact ⟨k + 1, by omega, by go_num, (hc.alloc _).setCell _ _ _ (.inl (by simp)), by rw [← hs.out, ← is_set]; simp [*]⟩
      case measure => simp [intOf]; omega
    · have : k = es.length := by omega
      subst this
      go_wp2
      go_ret
      rw [posFill_all] at hb
      have := is_sl hb rfl
      rw [poss_length] at this
      exact ⟨some ⟨w.heap.size, 0, none⟩, es.length, by rw [poss_length]; rfl, by rw [poss_length]; exact this, HC1.out.trans' hc (by simp)⟩
end Go.Proofs.Ytaignekkhfjicaa
