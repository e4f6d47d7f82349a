/- Entries of a queue cut out, drained, all of them written: walked. No condition. -/
import Derived.Test.YtaignekkhfjicaaWpqb
namespace Go.Proofs.Ytaignekkhfjicaa
open Go.RowKit
set_option linter.unusedVariables false
attribute [local go_sem ↓] append_appS copy_copS clear_clrS make_mkS cell_row frozen_row loadLine storeLine loadEnt storeEnt heap_drew heap_drewN heap_alloc heap_past heap_setCell heap_putRow vs_get entc_pos
attribute [local go_sem] rowCell_some rowFrozen_some rowHas_some rowIn_some rowPart_full rowPart_lit rowPut_full rowPut_lit rowSet_some size_putRow vs_size vs_one wideLine wideEnt run_loadS run_storeS run_appS run_copS run_clrS run_mkS loadW_at storeW_at fit_all fit_le one_int one_bool one_pointer one_slice allOne_list putRow_new ne_size1 ne_size2 ne_size3 ne_size4 zero8_length lines_nil line_eq lit8 entc_size entc_one entc_part entc_in entc_made fold_ent fold_entc
attribute [local simp ↓] heap_drew heap_drewN heap_alloc heap_past heap_setCell heap_putRow
attribute [local simp] rowCell_some rowFrozen_some rowHas_some rowIn_some rowPart_full rowPart_lit rowPut_full rowPut_lit rowSet_some size_putRow vs_size fit_all putRow_new ne_size1 ne_size2 ne_size3 ne_size4 zero8_length entc_size


/-- Behind a call that cuts a queue's entries in their block. -/
def QCut (w : World) (q be g n room : Nat) (es : List Ent) (e : Ending) (w' : World) : Prop := e = .returned (.tuple #[]) ∧ Chg [q, be] w w' ∧ Que w' q be g n room es
theorem ent_zero : ∀ w, (zeroValue 82).run Try.prog w = .ok entZ w := fun w => by
  obtain ⟨i0, hi0, hz0, hz1, hz2⟩ := info_parts ent_info
  simp [zeroValue, typeInfo, hi0, hz0]
/-- The entries behind the m-th cleared. -/
theorem clear_from (w : World) (q be m : Nat) (A : Option Addr) (cap : Nat) (es : List Ent) (hv : Vec 9 82 Ent.enc w q be A cap es) (hm : m ≤ es.length) :
    ∃ w', clrR Try.prog 78 0 #[.slice (if cap = m then A else A.map (·.add (m * 9))) (es.length - m) (cap - m)] w = .ok (.tuple #[]) w' ∧ Chg [be] w w' ∧ w'.heap[q]? = w.heap[q]? ∧ Vec 9 82 Ent.enc w' q be A cap (es.take m) := by
  by_cases h : m = es.length
  · subst h
    refine ⟨w, ?_, Chg.refl _ _, rfl, by rw [List.take_length]; exact hv⟩
    rw [Nat.sub_self]
    exact run_clear_sl0 Try.underlying78 w _ _
  · have hlt : m < es.length := by omega
    obtain ⟨hne, rfl, r, hb, hr⟩ := hv.there (by omega)
    have hle := hv.le
    have hsz : (sq Ent.enc es r).size = es.length * 9 + r.length := sq_size Ent.len es r
    have hrow : rowHas (w.heap[be]?) (m * 9) ((es.length - m) * 9) = true := by
      rw [hb, rowHas_some, hsz]
      exact decide_eq_true (show _ ≤ _ by omega)
    have hcl := run_clear_sl (P := Try.prog) (t := 78) (ty := 0) Try.underlying78 ent_zero entZ_one w be (m * 9) (es.length - m) (cap - m) (by omega) hrow
    rw [if_neg (by omega)]
    refine ⟨_, by rw [Option.map_some, Addr.add_mid, Nat.zero_add]; exact hcl, (Chg.refl _ _).putRow _ _ _ (.inl (by simp)), ?_, ?_⟩
    · rw [heap_putRow _ _ _ _ _ (by rw [size_zeroCells]; exact hrow), if_neg (Ne.symm hne)]
    · refine .inr ⟨hne, rfl, by rw [List.length_take]; omega, (Builtin.zeroCells entZ.cells (es.length - m)).toList ++ r, ?_, ?_⟩
      · rw [heap_putRow _ _ _ _ _ (by rw [size_zeroCells]; exact hrow), if_pos rfl, hb, rowPut_some, sq_toList]
        have hz : (Builtin.zeroCells entZ.cells (es.length - m)).toList.length = (es.length - m) * 9 := by rw [Array.length_toList, size_zeroCells]; rfl
        generalize (Builtin.zeroCells entZ.cells (es.length - m)).toList = z at hz
        congr 2
        unfold sq splice
        have e1 : (cat Ent.enc es).length = es.length * 9 := cat_length Ent.len es
        rw [List.take_append_of_le_length (by omega), cat_take Ent.len, List.drop_append, List.drop_eq_nil_of_le (by omega), List.nil_append, e1, hz, show m * 9 + (es.length - m) * 9 - es.length * 9 = 0 by omega, List.drop_zero, List.append_assoc]
      · simp only [List.length_append, List.length_take, Array.length_toList, size_zeroCells]
        rw [entZ_size, Nat.min_eq_left hm]
        omega
theorem shorten_ok (q be g n room m : Nat) (es : List Ent) (w : World) (hq : Que w q be g n room es) (hm : m ≤ es.length) :
    Calls Try.prog 37 #[.pointer (some ⟨q, 0, none⟩), .int .i64 m] w (QCut w q be g n room (es.take m)) := by
  have HQ := Lib.hid hq
  obtain ⟨⟨A, cap, hq, hv⟩, hl, hr1, hr16, _⟩ := hq
  have hle := hv.le
  have HM := Lib.hid hm
  obtain ⟨w1, hcl, hc, hqq, hv1⟩ := clear_from w q be m A cap es hv hm
  have hq1 : w1.heap[q]? = some (.cells #[.pointer (some ⟨g, 0, none⟩), .int .i64 n, .int .i64 room, .slice A es.length cap] 80 (0, 0)) := by rw [hqq]; exact hq
  have oq1 := old hq1
  have HV1 := Lib.hid hv1
  have HC := Lib.hid hc
  have g1 : (m : Int) ≤ (es.length : Int) := by omega
  have g2 : (m : Int) ≤ (cap : Int) := by omega
  clear hv hv1 hqq hc hm
  go_enter Try.func37, Try.ntmps37
  go_wp2
  all_goals
    go_end0
    have hnq : be ∉ [q] ∨ es.take m = [] := by
      rcases HV1.out with ⟨_, _, _, h⟩ | ⟨h, _⟩
      · exact .inr h
      · exact .inl (by simpa using h)
    refine ⟨rfl, ?_, ⟨A, cap, ?_, ?_⟩, by rw [List.length_take]; omega, hr1, hr16, HQ.out.2.2.2.2.1, HQ.out.2.2.2.2.2.1, HQ.out.2.2.2.2.2.2.sub (fun x hx => List.mem_of_mem_take hx)⟩
    · exact (HC.out.mono (l' := [q, be]) (by simp)).setCell _ _ _ (.inl (by simp))
    · rw [List.length_take, Nat.min_eq_left HM.out]; first | (simp [hq1]; done) | (simp [hq1]; omega)
    · rcases HV1.out with ⟨h1, h2, h3, h4⟩ | ⟨h1, h2, h3, r, h4, h5⟩
      · exact .inl ⟨h1, h2, h3, h4⟩
      · exact (HV1.out).keep ((Chg.refl [q] w1).setCell _ _ _ (.inl (by simp))) (by simpa using h1)

/-- The entries behind the i-th moved up by one. -/
theorem copy_up (w : World) (q be i : Nat) (cap : Nat) (A : Option Addr) (es : List Ent) (hv : Vec 9 82 Ent.enc w q be A cap es) (hi : i < es.length) :
    ∃ w', copR Try.prog 78 78 3 #[.slice (A.map (·.add (i * 9))) (es.length - i) (cap - i), .slice (if cap = i + 1 then A else A.map (·.add ((i + 1) * 9))) (es.length - (i + 1)) (cap - (i + 1))] w = .ok (goInt (es.length - (i + 1) : Nat)) w' ∧
      Chg [be] w w' ∧ w'.heap[q]? = w.heap[q]? ∧ Vec 9 82 Ent.enc w' q be A cap (splice es i (es.drop (i + 1))) := by
  obtain ⟨i0, hi0, hz0, hz1, hz2⟩ := info_parts ent_info
  obtain ⟨hne, rfl, r, hb, hr⟩ := hv.there (by omega)
  have hle := hv.le
  have hsz : (sq Ent.enc es r).size = es.length * 9 + r.length := sq_size Ent.len es r
  have hl : (cat Ent.enc (es.drop (i + 1))).length = (es.length - (i + 1)) * 9 := by rw [cat_length Ent.len, List.length_drop]
  have hsl : Sl w i0.size (if cap = i + 1 then some ⟨be, 0, none⟩ else (some (⟨be, 0, none⟩ : Addr)).map (·.add ((i + 1) * 9))) (es.length - (i + 1)) (cat Ent.enc (es.drop (i + 1))) := by
    rw [hz1]
    split
    · exact ⟨hl, .inl (by omega)⟩
    · rw [Option.map_some, Addr.add_mid, Nat.zero_add]
      exact hv.slFrom Ent.len (by omega)
  have hrow : rowHas (w.heap[be]?) (i * 9) (cat Ent.enc (es.drop (i + 1))).length = true := by
    rw [hb, rowHas_some, hsz, hl]
    exact decide_eq_true (show _ ≤ _ by omega)
  have hcp := run_copy_sl (P := Try.prog) (t := 78) (t' := 78) (ty := 3) Try.underlying78 hi0 w be (i * 9) _ (es.length - (i + 1)) (cap - (i + 1)) (es.length - i) (cap - i) _ hsl (by omega) (cat_one_cell Ent.one _) hrow
  refine ⟨_, by rw [Option.map_some, Addr.add_mid, Nat.zero_add]; exact hcp, (Chg.refl _ _).putRow _ _ _ (.inl (by simp)), ?_, ?_⟩
  · rw [heap_putRow _ _ _ _ _ (by simpa using hrow), if_neg (Ne.symm hne)]
  · refine .inr ⟨hne, rfl, by rw [length_splice _ _ _ (by rw [List.length_drop]; omega)]; exact hle, r, ?_, by rw [length_splice _ _ _ (by rw [List.length_drop]; omega)]; exact hr⟩
    rw [heap_putRow _ _ _ _ _ (by simpa using hrow), if_pos rfl, hb, rowPut_some, sq_toList, List.toList_toArray, splice_append _ _ _ _ (by rw [hl, cat_length Ent.len]; omega), cat_splice Ent.len]
    rfl
theorem splice_up {α : Type} (es : List α) (i : Nat) (hi : i < es.length) : (splice es i (es.drop (i + 1))).take (es.length - 1) = es.eraseIdx i := by
  unfold splice
  rw [erase_at, List.take_append_of_le_length (by simp; omega), List.take_of_length_le (by simp; omega)]
theorem cut_ok (q be g n room i : Nat) (es : List Ent) (w : World) (hq : Que w q be g n room es) (hi : i < es.length) :
    Calls Try.prog 36 #[.pointer (some ⟨q, 0, none⟩), .int .i64 i] w (QCut w q be g n room (es.eraseIdx i)) := by
  have HQ := Lib.hid hq
  obtain ⟨⟨A, cap, hq, hv⟩, hl, hr1, hr16, _⟩ := hq
  have hle := hv.le
  obtain ⟨w1, hcp, hc, hqq, hv1⟩ := copy_up w.drew q be i cap A es (hv.keep (Chg.refl [] w).drew (by simp)) hi
  have hq1 : w1.heap[q]? = some (.cells #[.pointer (some ⟨g, 0, none⟩), .int .i64 n, .int .i64 room, .slice A es.length cap] 80 (0, 0)) := by rw [hqq]; exact hq
  have hln : (splice es i (es.drop (i + 1))).length = es.length := length_splice _ _ _ (by rw [List.length_drop]; omega)
  have hq2 : Que w1 q be g n room (splice es i (es.drop (i + 1))) := by
    refine ⟨⟨A, cap, by rw [hln]; exact hq1, hv1⟩, by rw [hln]; exact hl, hr1, hr16, HQ.out.2.2.2.2.1, HQ.out.2.2.2.2.2.1, HQ.out.2.2.2.2.2.2.sub ?_⟩
    intro x hx
    unfold splice at hx
    rcases List.mem_append.1 hx with hx | hx
    · rcases List.mem_append.1 hx with hx | hx
      · exact List.mem_of_mem_take hx
      · exact List.mem_of_mem_drop hx
    · exact List.mem_of_mem_drop hx
  have oq1 := old hq1
  have HC := Lib.hid ((Chg.refl [be] w).drew.trans hc)
  have HQ2 := Lib.hid hq2
  have HI := Lib.hid hi
  have HLN := Lib.hid hln
  have g1 : (i : Int) ≤ (es.length : Int) := by omega
  have g2 : (i : Int) + 1 ≤ (es.length : Int) := by omega
  clear hv hv1 hqq hc hq2 hln
  go_enter Try.func36, Try.ntmps36
  go_wp2
  go_region
  all_goals go_wp2_with fail
  all_goals
    have hlt : ((es.length - 1 : Nat) : Int) = (es.length : Int) - 1 := by have := HI.out; omega
    rw [← hlt]
    clear hlt
    refine (shorten_ok q be g n room (es.length - 1) (splice es i (es.drop (i + 1))) _ HQ2.out (by rw [HLN.out]; omega)).mono ?_
    rintro e w2 ⟨rfl, c2, q2⟩
    have C2 := Lib.hid c2
    have Q2 := Lib.hid q2
    clear c2 q2
    go_wp2_with fail
    go_end0
    exact ⟨rfl, (HC.out.mono (l' := [q, be]) (by simp)).trans C2.out, by rw [← splice_up es i HI.out]; exact Q2.out⟩

/-! ### Drained -/
theorem drain_nil (i : Int) (w : World) : Calls Try.prog 17 #[.pointer none, .int .i64 i] w fun e w' => e = .returned (.int .i64 1) ∧ w = w' := by
  go_enter Try.func17, Try.ntmps17
  go_wp2
  go_ret
  exact ⟨rfl, rfl⟩
theorem drain_none (q be g n room : Nat) (es : List Ent) (i : Int) (w : World) (hq : Que w q be g n room es) (hi : ∀ e ∈ es, (e.pos : Int) ≠ i) :
    Calls Try.prog 17 #[.pointer (some ⟨q, 0, none⟩), .int .i64 i] w fun e w' => e = .returned (.int .i64 14) ∧ Chg [] w w' := by
  have HQ := Lib.hid hq
  have HI := Lib.hid hi
  have hle : es.length ≤ 16 := by have := hq.2.1; have := hq.2.2.2.1; omega
  obtain ⟨⟨A, cap, hq, hv⟩, _⟩ := hq
  have HV := Lib.hid hv
  have oq := old hq
  clear hv hi
  go_enter Try.func17, Try.ntmps17
  go_wp2
  go_loopw [14] (fun x wr => ∃ k : Nat, k ≤ es.length ∧ x = .int .i64 k ∧ Chg [] w wr) (fun x _ => es.length - (intOf x).toNat)
  case atStart => exact ⟨0, by omega, rfl, Chg.refl _ _⟩
  case round =>
    obtain ⟨k, hk, rfl, hc⟩ := hrel
    by_cases hlt : k < es.length
    · obtain ⟨e, he⟩ : ∃ e, es[k]? = some e := ⟨es[k], List.getElem?_eq_getElem hlt⟩
      obtain ⟨_, rfl, r, hbe, _⟩ := HV.out.there (by omega)
      have hbr := hc.keep hbe (by simp)
      have obe := old hbr
      have g1 : (k : Int) < (es.length : Int) := by omega
      have g0 : (0 : Int) ≤ (k : Int) := by omega
      have rp := ent_row he r 82 (0, 0)
      have ri := ent_rowIn he r 82 (0, 0)
      have t1 : ((e.pos : Int) == i) = false := by simpa using HI.out e (List.mem_of_getElem? he)
      clear hbe he
      go_wp2
      go_roundw
      case rel => exact ⟨k + 1, by omega, by go_num, hc.alloc _⟩
      case measure => simp [intOf]; omega
    · have : k = es.length := by omega
      subst this
      go_wp2
      go_ret
      exact ⟨rfl, hc⟩
/-- Behind a drain. -/
def QDrain (w : World) (q be g b n v room : Nat) (es : List Ent) (xs : List Int) (e : Ending) (w' : World) : Prop :=
  e = .returned (.int .i64 0) ∧ Chg [q, be, g, b] w w' ∧ Que w' q be g n room es ∧ Dev w' g b n v xs
/-- The blocks of a queue are others than its device's. -/
def Apart (q be g b : Nat) : Prop := q ≠ g ∧ q ≠ b ∧ be ≠ g ∧ be ≠ b
theorem drain_ok (q be g b n v room : Nat) (es : List Ent) (xs : List Int) (j : Nat) (x : Ent) (w : World) (hq : Que w q be g n room es) (hd : Dev w g b n v xs) (ha : Apart q be g b) (hx : es[j]? = some x) (hi : ∀ e ∈ es.take j, (e.pos : Int) ≠ (x.pos : Int)) :
    Calls Try.prog 17 #[.pointer (some ⟨q, 0, none⟩), .int .i64 x.pos] w (QDrain w q be g b n v room (es.eraseIdx j) (lnPut xs x.pos x.l)) := by
  have HQ := Lib.hid hq
  have HI := Lib.hid hi
  have HA := Lib.hid ha
  have HD := Lib.hid hd
  have HX := Lib.hid hx
  have hle : es.length ≤ 16 := by have := hq.2.1; have := hq.2.2.2.1; omega
  obtain ⟨⟨A, cap, hq, hv⟩, _⟩ := hq
  have HV := Lib.hid hv
  have HQ0 := Lib.hid hq
  have oq := old hq
  have hjl : j < es.length := (List.getElem?_eq_some_iff.1 hx).1
  clear hv hi ha hd hx
  go_enter Try.func17, Try.ntmps17
  go_wp2
  go_loopw [14] (fun y wr => ∃ k : Nat, k ≤ j ∧ y = .int .i64 k ∧ Chg [] w wr) (fun y _ => es.length - (intOf y).toNat)
  case atStart => exact ⟨0, by omega, rfl, Chg.refl _ _⟩
  case round =>
    obtain ⟨k, hk, rfl, hc⟩ := hrel
    obtain ⟨_, rfl, r, hbe, _⟩ := HV.out.there (by omega)
    have hbr := hc.keep hbe (by simp)
    have hqr := hc.keep HQ0.out (by simp)
    have obe := old hbr
    have oqr := old hqr
    have g1 : (k : Int) < (es.length : Int) := by omega
    have g0 : (0 : Int) ≤ (k : Int) := by omega
    by_cases hkj : k < j
    · obtain ⟨e, he⟩ : ∃ e, es[k]? = some e := ⟨es[k]'(by omega), List.getElem?_eq_getElem (by omega)⟩
      have rp := ent_row he r 82 (0, 0)
      have ri := ent_rowIn he r 82 (0, 0)
      have t1 : (e.pos == x.pos) = false := by
        have := HI.out e (List.mem_of_getElem? (show (es.take j)[k]? = some e by rw [List.getElem?_take_of_lt hkj]; exact he))
        simp; omega
      clear hbe he
      go_wp2
      go_roundw
      case rel => exact ⟨k + 1, by omega, by go_num, hc.alloc _⟩
      case measure => simp [intOf]; omega
    · obtain rfl : k = j := by omega
      have rp := ent_row HX.out r 82 (0, 0)
      have ri := ent_rowIn HX.out r 82 (0, 0)
      have t1 : (x.pos == x.pos) = true := by simp
      have hx8 := x.h
      have HC := Lib.hid hc
      have HBE := Lib.hid hbe
      clear hbe hc hkj hk
      go_wp2_with fail
      have hqx : (wr.alloc (.cells (entc x) 82)).heap[q]? = some (.cells #[.pointer (some ⟨g, 0, none⟩), .int .i64 n, .int .i64 room, .slice (some ⟨be, 0, none⟩) es.length cap] 80 (0, 0)) := by simp [hqr]
      have hxx : (wr.alloc (.cells (entc x) 82)).heap[wr.heap.size]? = some (.cells (entc x) 82 (0, 0)) := by simp
      have C1 := Lib.hid (HC.out.alloc (.cells (entc x) 82))
      have HZ := Lib.hid HC.out.size
      generalize wr.alloc (.cells (entc x) 82) = w1 at hqx hxx C1 ⊢
      have HGB := Lib.hid (show g < wr.heap.size ∧ b < wr.heap.size from ⟨Nat.lt_of_lt_of_le (old HD.out.1.choose_spec.choose_spec).lt HZ.out, Nat.lt_of_lt_of_le (old HD.out.2.1).lt HZ.out⟩)
      have D1 := Lib.hid (HD.out.keep C1.out (by simp) (by simp))
      have Q1 := Lib.hid (HQ.out.keep C1.out (by simp) (by simp))
      go_region_held3 (fun w' => w'.heap[q]? = some (.cells #[.pointer (some ⟨g, 0, none⟩), .int .i64 n, .int .i64 room, .slice (some ⟨be, 0, none⟩) es.length cap] 80 (0, 0)) ∧ w'.heap[wr.heap.size]? = some (.cells (entc x) 82 (0, 0))) (first | exact ⟨hqx, hxx⟩ | exact ⟨c2.keep hqx (by have := HA.out.1; have := HA.out.2.1; simp; omega), c2.keep hxx (by have := HGB.out; simp; omega)⟩)
        ((go_at_call 21; refine (write_ok g b n v x.pos x.l xs _ (D1.out.keep ((Chg.refl [] w1).drew) (by simp) (by simp)) (HQ.out.2.2.2.2.2.2.get HX.out) hx8).mono ?_; rintro e w' ⟨rfl, c2, d2⟩))
      all_goals
        have HA1 := HA.out
        have Q2 := Lib.hid (Q1.out.keep (l := [g, b]) ((Chg.refl [g, b] w1).drew.trans c2) (by have := HA1.1; have := HA1.2.1; simp; omega) (by have := HA1.2.2.1; have := HA1.2.2.2; simp; omega))
        have D2 := Lib.hid d2
        have C2 := Lib.hid ((C1.out.mono (l' := [g, b]) (by simp)).drew.trans c2)
        clear c2 d2 HA1 hqx hxx
        go_wp2_with fail
        refine (cut_ok q be g n room k es _ Q2.out hjl).mono ?_
        rintro e w4 ⟨rfl, c4, q4⟩
        have HA1 := HA.out
        have D4 := Lib.hid (D2.out.keep c4 (by have := HA1.1; have := HA1.2.2.1; simp; omega) (by have := HA1.2.1; have := HA1.2.2.2; simp; omega))
        have C4 := Lib.hid ((C2.out.mono (l' := [q, be, g, b]) (by simp)).trans' c4 (by simp))
        have Q4 := Lib.hid q4
        clear c4 q4 HA1
        go_wp2_with fail
        go_ret
        exact ⟨rfl, C4.out, Q4.out, D4.out⟩

/-! ### The power fails -/
theorem qfail_nil (w : World) : Calls Try.prog 19 #[.pointer none] w fun e w' => e = .returned (.tuple #[]) ∧ w = w' := by
  go_enter Try.func19, Try.ntmps19
  go_wp2
  refine bodyPost_ret (results_none rfl _ _ _) rfl ?_
  exact ⟨rfl, rfl⟩
/-- Behind a failure. -/
def QFail (w : World) (q be g b n v room : Nat) (xs : List Int) (e : Ending) (w' : World) : Prop :=
  e = .returned (.tuple #[]) ∧ Chg [q, be, g, b] w w' ∧ Que w' q be g n room [] ∧ Dev w' g b n v xs
theorem qfail_ok (q be g b n v room : Nat) (es : List Ent) (xs : List Int) (w : World) (hq : Que w q be g n room es) (hd : Dev w g b n v xs) (ha : Apart q be g b) :
    Calls Try.prog 19 #[.pointer (some ⟨q, 0, none⟩)] w (QFail w q be g b n v room (forget (over xs es) v)) := by
  have HQ := Lib.hid hq
  have HA := Lib.hid ha
  have HD := Lib.hid hd
  have hle : es.length ≤ 16 := by have := hq.2.1; have := hq.2.2.2.1; omega
  obtain ⟨⟨A, cap, hq, hv⟩, _⟩ := hq
  have HV := Lib.hid hv
  have HQ0 := Lib.hid hq
  have oq := old hq
  clear hv ha hd
  go_enter Try.func19, Try.ntmps19
  go_wp2
  go_loopw [11] (fun y wr => ∃ k : Nat, k ≤ es.length ∧ y = .int .i64 k ∧ Chg [g, b] w wr ∧ Dev wr g b n v (over xs (es.take k))) (fun y _ => es.length - (intOf y).toNat)
  case atStart => exact ⟨0, by omega, rfl, Chg.refl _ _, by rw [List.take_zero]; exact HD.out⟩
  case round =>
    obtain ⟨k, hk, rfl, hc, hd⟩ := hrel
    have HA1 := HA.out
    have hqr := hc.keep HQ0.out (by have := HA1.1; have := HA1.2.1; simp; omega)
    have oqr := old hqr
    by_cases hlt : k < es.length
    · obtain ⟨e, he⟩ : ∃ e, es[k]? = some e := ⟨es[k], List.getElem?_eq_getElem hlt⟩
      obtain ⟨_, rfl, r, hbe, _⟩ := HV.out.there (by omega)
      have hbr := hc.keep hbe (by have := HA1.2.2.1; have := HA1.2.2.2; simp; omega)
      have obe := old hbr
      have g1 : (k : Int) < (es.length : Int) := by omega
      have g0 : (0 : Int) ≤ (k : Int) := by omega
      have rp := ent_row he r 82 (0, 0)
      have ri := ent_rowIn he r 82 (0, 0)
      have he8 := e.h
      have HC := Lib.hid hc
      have HDR := Lib.hid hd
      have HEN := Lib.hid (HQ.out.2.2.2.2.2.2.get he)
      have hs := Lib.hid (show lnPut (over xs (es.take k)) e.pos e.l = over xs (es.take (k + 1)) by rw [← over_snoc, List.take_add_one, he]; rfl)
      clear hbe hc hd he HA1
      go_wp2_with fail
      have hqx : (wr.alloc (.cells (entc e) 82)).heap[q]? = some (.cells #[.pointer (some ⟨g, 0, none⟩), .int .i64 n, .int .i64 room, .slice (some ⟨be, 0, none⟩) es.length cap] 80 (0, 0)) := by simp [hqr]
      have hxx : (wr.alloc (.cells (entc e) 82)).heap[wr.heap.size]? = some (.cells (entc e) 82 (0, 0)) := by simp
      have C1 := Lib.hid (HC.out.alloc (.cells (entc e) 82))
      have D1 := Lib.hid (HDR.out.keep ((Chg.refl [] wr).alloc (.cells (entc e) 82)) (by simp) (by simp))
      have HZ := Lib.hid HC.out.size
      generalize wr.alloc (.cells (entc e) 82) = w1 at hqx hxx C1 D1 ⊢
      have HGB := Lib.hid (show g < wr.heap.size ∧ b < wr.heap.size from ⟨Nat.lt_of_lt_of_le (old HD.out.1.choose_spec.choose_spec).lt HZ.out, Nat.lt_of_lt_of_le (old HD.out.2.1).lt HZ.out⟩)
      go_region_held3 (fun w' => w'.heap[q]? = some (.cells #[.pointer (some ⟨g, 0, none⟩), .int .i64 n, .int .i64 room, .slice (some ⟨be, 0, none⟩) es.length cap] 80 (0, 0)) ∧ w'.heap[wr.heap.size]? = some (.cells (entc e) 82 (0, 0))) (first | exact ⟨hqx, hxx⟩ | exact ⟨c2.keep hqx (by have := HA.out.1; have := HA.out.2.1; simp; omega), c2.keep hxx (by have := HGB.out; simp; omega)⟩)
        ((go_at_call 21; refine (write_ok g b n v e.pos e.l (over xs (es.take k)) _ (D1.out.keep ((Chg.refl [] w1).drew) (by simp) (by simp)) HEN.out he8).mono ?_; rintro e w' ⟨rfl, c2, d2⟩))
      all_goals
        have D2 := Lib.hid d2
        have C2 := Lib.hid (C1.out.drew.trans c2)
        clear c2 d2 hqx hxx
        go_wp2_with fail
        go_roundw
        case rel => exact ⟨k + 1, by omega, by go_num, C2.out, by rw [← hs.out]; exact D2.out⟩
        case measure => simp [intOf]; omega
    · obtain rfl : k = es.length := by omega
      have HC := Lib.hid hc
      have HDR := Lib.hid (show Dev wr g b n v (over xs es) by rw [List.take_length] at hd; exact hd)
      have Q1 := Lib.hid (HQ.out.keep hc (by have := HA1.1; have := HA1.2.1; simp; omega) (by have := HA1.2.2.1; have := HA1.2.2.2; simp; omega))
      clear hc hd HA1
      go_wp2_with fail
      refine (shorten_ok q be g n room 0 es _ Q1.out (by omega)).mono ?_
      rintro e w2 ⟨rfl, c2, q2⟩
      rw [List.take_zero] at q2
      have HA1 := HA.out
      have D2 := Lib.hid (HDR.out.keep c2 (by have := HA1.1; have := HA1.2.2.1; simp; omega) (by have := HA1.2.1; have := HA1.2.2.2; simp; omega))
      have C2 := Lib.hid ((HC.out.mono (l' := [q, be, g, b]) (by simp)).trans' c2 (by simp))
      have Q2 := Lib.hid q2
      obtain ⟨⟨A2, cap2, hq2, _⟩, _⟩ := q2
      have oq2 := old hq2
      clear c2 HA1
      go_wp2_with fail
      refine (fail_ok g b n v (over xs es) _ D2.out).mono ?_
      rintro e w3 ⟨rfl, c3, d3⟩
      have HA1 := HA.out
      have Q3 := Lib.hid (Q2.out.keep c3 (by have := HA1.2.1; simp; omega) (by have := HA1.2.2.2; simp; omega))
      have C3 := Lib.hid (C2.out.trans' c3 (by simp))
      have D3 := Lib.hid d3
      clear c3 d3 HA1
      go_wp2_with fail
      go_end0
      exact ⟨rfl, C3.out, Q3.out, D3.out⟩
end Go.Proofs.Ytaignekkhfjicaa
