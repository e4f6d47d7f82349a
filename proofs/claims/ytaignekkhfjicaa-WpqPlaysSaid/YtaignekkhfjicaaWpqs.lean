/- The document's own queue read, drained, told, all of it written: walked. No condition. -/
import Derived.Test.YtaignekkhfjicaaWpqr
namespace Go.Proofs.Ytaignekkhfjicaa
open Go.RowKit
set_option linter.unusedVariables false
attribute [local go_sem ↓] append_appS copy_copS clear_clrS make_mkS cell_row frozen_row loadLine storeLine loadEnt storeEnt loadREnt storeREnt heap_drew heap_drewN heap_alloc heap_past heap_setCell heap_putRow vs_get entc_pos
attribute [local go_sem] rowCell_some rowFrozen_some rowHas_some rowIn_some rowPart_full rowPart_lit rowPut_full rowPut_lit rowSet_some size_putRow vs_size vs_one wideLine wideEnt wideREnt run_loadS run_storeS run_appS run_copS run_clrS run_mkS loadW_at storeW_at fit_all fit_le one_int one_bool one_pointer one_slice allOne_list putRow_new ne_size1 ne_size2 ne_size3 ne_size4 zero8_length lines_nil line_eq lit8 entc_size entc_one entc_part entc_in entc_made fold_ent fold_entc
attribute [local simp ↓] heap_drew heap_drewN heap_alloc heap_past heap_setCell heap_putRow
attribute [local simp] rowCell_some rowFrozen_some rowHas_some rowIn_some rowPart_full rowPart_lit rowPut_full rowPut_lit rowSet_some size_putRow vs_size fit_all putRow_new ne_size1 ne_size2 ne_size3 ne_size4 zero8_length entc_size


theorem rqread_ok (p bp o bq n v room : Nat) (es : List Ent) (xs : List Int) (i : Nat) (w : World) (hq : RQue w p bp o n room es) (hd : RDev w o bq n v xs) (hi : i < n) :
    Calls Try.prog 16 #[.pointer (some ⟨p, 0, none⟩), .int .i64 i] w fun e w' => e = .returned (.tuple #[.agg (vs (ln (over xs es) i)), .int .i64 0]) ∧ Chg [] w w' := by
  have HQ := Lib.hid hq
  have hle : es.length ≤ 16 := by have := hq.2.1; have := hq.2.2.2.1; omega
  obtain ⟨⟨A, cap, hq, hv⟩, _, _, _, _, hn64, hlie⟩ := hq
  have HLIE := Lib.hid hlie
  have HX := Lib.hid hd.2.2.1
  have c1 := (Chg.refl [] w).alloc (.cells (vs zero8) 40)
  have HD := Lib.hid (hd.keep c1 (by simp) (by simp))
  have HV := Lib.hid hv
  have HW := Lib.hid c1
  have oq := old hq
  have obe := (HQ.out.olde)
  clear hv hd hlie c1
  go_enter Try.func16, Try.ntmps16
  go_wp2
  go_loop [6] (fun x => ∃ (k : Nat) (z : Int), k ≤ es.length ∧ z = (k : Int) - 1 ∧ x = .int .i64 z ∧ ∀ y ∈ es.drop k, y.pos ≠ i) (fun x => (intOf x + 1).toNat)
  case atStart => exact ⟨es.length, _, by omega, rfl, rfl, by simp⟩
  case round =>
    obtain ⟨k, z, hk, hz, rfl, hno⟩ := hrel
    have HNO := Lib.hid hno
    clear hno
    rcases k with _ | j
    · obtain rfl : z = -1 := by omega
      clear hz
      go_wp2_with fail
      refine (rread_ok o bq n v i xs _ HD.out hi).mono ?_
      rintro e w2 ⟨rfl, c2⟩
      have hln : ln (over xs es) i = ln xs i := ln_over_none es xs HX.out HLIE.out (by simpa using HNO.out)
      have hf := fit_line HX.out hi
      have hl := ln_length xs i hf
      have hb2 := c2.keep (k := w.heap.size) (x := .cells (vs zero8) 40 (0, 0)) (by simp) (by simp)
      have ob2 := old hb2
      have C2 := Lib.hid (HW.out.trans c2)
      have HLN := Lib.hid hln
      clear c2 hf hln
      go_wp2
      refine bodyPost_ret (v := .tuple #[.agg (vs (ln xs i)), .int .i64 0]) ?_ (by rfl) ?_
      · exact results_line2 (by rfl) _ _ w.heap.size (ln xs i) (0, 0) (by rfl) (by simp [*]) hl _ (by rfl)
      · rw [HLN.out]
        exact ⟨rfl, C2.out.putRow _ _ _ (.inr (Nat.le_refl _))⟩
    · obtain rfl : z = (j : Int) := by omega
      clear hz
      have hlt : j < es.length := hk
      obtain ⟨e, he⟩ : ∃ e, es[j]? = some e := ⟨es[j], List.getElem?_eq_getElem hlt⟩
      obtain ⟨_, rfl, r, hbe, _⟩ := HV.out.there (by omega)
      have g1 : (j : Int) < (es.length : Int) := by omega
      have g0 : (0 : Int) ≤ (j : Int) := by omega
      have rc := ent_cell he r
      by_cases hei : e.pos = i
      · subst hei
        have t1 : (e.pos == e.pos) = true := by simp
        have rp := ent_line he r 85 (0, 0)
        have ri := ent_lineIn he r 85 (0, 0)
        have hl := e.h
        have hln := Lib.hid (ln_over_at xs HX.out HLIE.out he HNO.out)
        clear he hk
        go_wp2
        refine bodyPost_ret (v := .tuple #[.agg (vs e.l), .int .i64 0]) ?_ (by rfl) ?_
        · exact results_line2 (by rfl) _ _ w.heap.size e.l (0, 0) (by rfl) (by simp [*]) hl _ (by rfl)
        · rw [hln.out]
          exact ⟨rfl, ((Chg.refl _ _).alloc _)⟩
      · have t1 : (e.pos == i) = false := by simpa using hei
        have HN2 := Lib.hid (drop_all he hei HNO.out)
        clear he
        go_wp2
        go_round
        case rel => exact ⟨j, _, by omega, rfl, rfl, HN2.out⟩
        case measure => simp [intOf]
theorem rqread_out (p bp o bq n v room : Nat) (es : List Ent) (xs : List Int) (i : Int) (w : World) (hq : RQue w p bp o n room es) (hd : RDev w o bq n v xs) (hi : ¬ (0 ≤ i ∧ i < n)) :
    Calls Try.prog 16 #[.pointer (some ⟨p, 0, none⟩), .int .i64 i] w fun e w' => e = .returned (.tuple #[.agg (vs zero8), .int .i64 12]) ∧ Chg [] w w' := by
  have HQ := Lib.hid hq
  have HI := Lib.hid hi
  have hle : es.length ≤ 16 := by have := hq.2.1; have := hq.2.2.2.1; omega
  obtain ⟨⟨A, cap, hq, hv⟩, _, _, _, _, hn64, hlie⟩ := hq
  have HLIE := Lib.hid hlie
  have c1 := (Chg.refl [] w).alloc (.cells (vs zero8) 40)
  have HD := Lib.hid (hd.keep c1 (by simp) (by simp))
  have HV := Lib.hid hv
  have oq := old hq
  have obe := (HQ.out.olde)
  clear hv hd hlie c1 hi
  go_enter Try.func16, Try.ntmps16
  go_wp2
  go_loop [6] (fun x => ∃ (k : Nat) (z : Int), k ≤ es.length ∧ z = (k : Int) - 1 ∧ x = .int .i64 z) (fun x => (intOf x + 1).toNat)
  case atStart => exact ⟨es.length, _, by omega, rfl, rfl⟩
  case round =>
    obtain ⟨k, z, hk, hz, rfl⟩ := hrel
    rcases k with _ | j
    · obtain rfl : z = -1 := by omega
      clear hz
      go_wp2_with fail
      refine (rread_out o bq n v i xs _ HD.out HI.out).mono ?_
      rintro e w2 ⟨rfl, c2⟩
      have hb2 := c2.keep (k := w.heap.size) (x := .cells (vs zero8) 40 (0, 0)) (by simp) (by simp)
      have ob2 := old hb2
      have C2 := Lib.hid (((Chg.refl [] w).alloc (.cells (vs zero8) 40)).trans c2)
      clear c2
      go_wp2
      refine bodyPost_ret (v := .tuple #[.agg (vs zero8), .int .i64 12]) ?_ (by rfl) ?_
      · exact results_line2 (by rfl) _ _ w.heap.size zero8 (0, 0) (by rfl) (by simp [*]) rfl _ (by rfl)
      · exact ⟨rfl, C2.out.putRow _ _ _ (.inr (Nat.le_refl _))⟩
    · obtain rfl : z = (j : Int) := by omega
      clear hz
      have hlt : j < es.length := hk
      obtain ⟨e, he⟩ : ∃ e, es[j]? = some e := ⟨es[j], List.getElem?_eq_getElem hlt⟩
      obtain ⟨_, rfl, r, hbe, _⟩ := HV.out.there (by omega)
      have g1 : (j : Int) < (es.length : Int) := by omega
      have g0 : (0 : Int) ≤ (j : Int) := by omega
      have rc := ent_cell he r
      have t1 : ((e.pos : Int) == i) = false := by
        have h1 : e.pos < n := HLIE.out.get he
        have h2 := HI.out
        simp; omega
      clear he
      go_wp2
      go_round
      case rel => exact ⟨j, _, by omega, rfl, rfl⟩
      case measure => simp [intOf]

/-! ### Told -/
theorem eltInt : Elt Try.prog 56 3 1 8 (.int .i64 0) ienc where
  slice := Try.underlying56
  info := by kernel_rfl
  zero := rfl
  zone := by intro v hv; simp [Value.cells] at hv; rw [hv]; rfl
  pos := by omega
  len := ienc_len
  one := ienc_one
theorem eltLine : Elt Try.prog 59 40 8 64 (.agg (vs zero8)) lenc where
  slice := Try.underlying59
  info := line_info
  zero := rfl
  zone := by intro v hv; simp [Value.cells, vs, zero8] at hv; rw [hv]; rfl
  pos := by omega
  len := lenc_len
  one := lenc_one
theorem rqlines_ok (p bp o n room : Nat) (es : List Ent) (w : World) (hq : RQue w p bp o n room es) : Calls Try.prog 26 #[.pointer (some ⟨p, 0, none⟩)] w (Told w (poss es)) := by
  have HQ := Lib.hid hq
  have hle : es.length ≤ 16 := by have := hq.2.1; have := hq.2.2.2.1; omega
  obtain ⟨⟨A, cap, hq, hv⟩, _⟩ := hq
  have HV := Lib.hid hv
  have HP := Lib.hid hq
  clear hv
  go_enter Try.func26, Try.ntmps26
  go_wp2
  go_loopw [3, 4] (fun s i wr => ∃ (k be cp : Nat) (B : Option Addr), k ≤ es.length ∧ i = .int .i64 k ∧ s = .slice B k cp ∧ Chg [] w wr ∧ Vec 1 3 ienc wr p be B cp ((poss es).take k) ∧ (be = p ∨ w.heap.size ≤ be)) (fun _ i _ => es.length - (intOf i).toNat)
  case atStart => exact ⟨0, p, 0, none, by omega, rfl, rfl, Chg.refl _ _, by rw [List.take_zero]; exact Vec.nil _ _ _ _ _, .inl rfl⟩
  case round =>
    obtain ⟨k, be, cp, B, hk, rfl, rfl, hc, hvb, hbe⟩ := hrel
    have hpr := hc.keep HP.out (by simp)
    have oq := old hpr
    by_cases hlt : k < es.length
    · obtain ⟨e, he⟩ : ∃ e, es[k]? = some e := ⟨es[k], List.getElem?_eq_getElem hlt⟩
      obtain ⟨_, rfl, r, hbp, _⟩ := HV.out.there (by omega)
      have hbr := hc.keep hbp (by simp)
      have obe := old hbr
      have g1 : (k : Int) < (es.length : Int) := by omega
      have g0 : (0 : Int) ≤ (k : Int) := by omega
      have rc := ent_cell he r
      have hsl : Sl (wr.alloc (.cells #[.int .i64 e.pos] 3)) 1 (some ⟨wr.heap.size, 0, none⟩) 1 (cat ienc [(e.pos : Int)]) := ⟨rfl, .inr ⟨wr.heap.size, 0, #[.int .i64 e.pos], 3, (0, 0), rfl, by simp, rfl⟩⟩
      have hkl : ((poss es).take k).length = k := by rw [List.length_take, poss_length]; omega
      obtain ⟨be', cap', A', w2, happ, hv2, hbe2, hc2⟩ := Vec.acc (ty := 56) eltInt (hc.alloc (.cells #[.int .i64 e.pos] 3)) (hvb.keep ((Chg.refl [] wr).alloc (.cells #[.int .i64 e.pos] 3)) (by simp)) hbe (old HP.out) hsl (c := 1) rfl (by rw [hkl]; omega) (by rw [hkl]; unfold maxLen; omega)
      rw [hkl] at happ
      have hs : (poss es).take k ++ [(e.pos : Int)] = (poss es).take (k + 1) := by rw [List.take_add_one]; simp [poss, he]
      rw [hs] at hv2
      have HV2 := Lib.hid hv2
      have HB2 := Lib.hid hbe2
      have HC2 := Lib.hid hc2
      clear hvb hbe hc hv2 hbe2 hc2 hsl hkl hs he hbp
      go_wp2
      go_roundw
      case rel => exact ⟨k + 1, be', cap', A', by omega, by go_num, rfl, HC2.out, HV2.out, HB2.out⟩
      case measure => simp [intOf]; omega
    · have : k = es.length := by omega
      subst this
      have hs : (poss es).take es.length = poss es := List.take_of_length_le (by rw [poss_length]; omega)
      rw [hs] at hvb
      have hsl := hvb.sl ienc_len
      rw [cat_ienc, poss_length] at hsl
      have HSL := Lib.hid hsl
      clear hvb hbe hs hsl
      go_wp2
      go_ret
      exact ⟨B, cp, by rw [poss_length]; rfl, by rw [poss_length]; exact HSL.out, hc⟩
end Go.Proofs.Ytaignekkhfjicaa
