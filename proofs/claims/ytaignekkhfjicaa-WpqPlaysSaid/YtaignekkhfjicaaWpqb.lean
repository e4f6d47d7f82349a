/- Entries of a queue read, drained, all of them written: walked. No condition. -/
import Derived.Test.YtaignekkhfjicaaWpqa
namespace Go.Proofs.Ytaignekkhfjicaa
open Go.RowKit
set_option linter.unusedVariables false
attribute [local go_sem ↓] append_appS copy_copS clear_clrS make_mkS cell_row frozen_row loadLine storeLine loadEnt storeEnt heap_drew heap_drewN heap_alloc heap_past heap_setCell heap_putRow vs_get entc_pos
attribute [local go_sem] rowCell_some rowFrozen_some rowHas_some rowIn_some rowPart_full rowPart_lit rowPut_full rowPut_lit rowSet_some size_putRow vs_size vs_one wideLine wideEnt run_loadS run_storeS run_appS run_copS run_clrS run_mkS loadW_at storeW_at fit_all fit_le one_int one_bool one_pointer one_slice allOne_list putRow_new ne_size1 ne_size2 ne_size3 ne_size4 zero8_length lines_nil line_eq lit8 entc_size entc_one entc_part entc_in entc_made fold_ent fold_entc
attribute [local simp ↓] heap_drew heap_drewN heap_alloc heap_past heap_setCell heap_putRow
attribute [local simp] rowCell_some rowFrozen_some rowHas_some rowIn_some rowPart_full rowPart_lit rowPut_full rowPut_lit rowSet_some size_putRow vs_size fit_all putRow_new ne_size1 ne_size2 ne_size3 ne_size4 zero8_length entc_size


theorem qimage_nil (w : World) : Calls Try.prog 28 #[.pointer none] w fun e w' => e = .returned (.slice none 0 0) ∧ w = w' := by
  go_enter Try.func28, Try.ntmps28
  go_wp2
  go_ret
  exact ⟨rfl, rfl⟩
theorem qimage_ok (q be g b n v room : Nat) (es : List Ent) (xs : List Int) (w : World) (hq : Que w q be g n room es) (hd : Dev w g b n v xs) : Calls Try.prog 28 #[.pointer (some ⟨q, 0, none⟩)] w (OwnLines w n (over xs es)) := by
  have HQ := Lib.hid hq
  have HD := Lib.hid hd
  have hle : es.length ≤ 16 := by have := hq.2.1; have := hq.2.2.2.1; omega
  obtain ⟨⟨A, cap, hq, hv⟩, _, _, _, _, hn64, hlie⟩ := hq
  have HV := Lib.hid hv
  have HO := Lib.hid (HQ.out.olde.lt)
  have HLIE := Lib.hid hlie
  clear hv hd hlie
  go_enter Try.func28, Try.ntmps28
  go_wp2_with fail
  refine (image_ok g b n v xs _ HD.out).mono ?_
  rintro e w1 ⟨g', cap', r', rfl, a1, a2, a3, a4⟩
  have hq1 := a4.keep hq (by simp)
  have HV1 := Lib.hid (HV.out.keep a4 (by simp))
  have A1 := Lib.hid a1
  have A2 := Lib.hid a2
  have A4 := Lib.hid a4
  have hcap : (n : Int) ≤ (cap' : Int) := by omega
  have HX := Lib.hid HD.out.2.2.1
  clear a1 a2 a4 a3
  go_wp2
  go_loopw [18] (fun i wr => ∃ k : Nat, k ≤ es.length ∧ i = .int .i64 k ∧ Chg [g'] w1 wr ∧ wr.heap[g']? = some (.cells (bk (over xs (es.take k)) r') 40 (0, 0))) (fun i _ => es.length - (intOf i).toNat)
  case atStart => exact ⟨0, by omega, rfl, Chg.refl _ _, by rw [List.take_zero, over_nil]; exact A1.out⟩
  case round =>
    obtain ⟨k, hk, rfl, hc, hb⟩ := hrel
    by_cases hlt : k < es.length
    · obtain ⟨e, he⟩ : ∃ e, es[k]? = some e := ⟨es[k], List.getElem?_eq_getElem hlt⟩
      obtain ⟨_, rfl, r, hbe, _⟩ := HV1.out.there (by omega)
      have hbr := hc.keep hbe (by have := HO.out; have := A2.out; simp; omega)
      have ob := old hb
      have obe := old hbr
      have hen : e.pos < n := HLIE.out.get he
      have g1 : (k : Int) < (es.length : Int) := by omega
      have g0 : (0 : Int) ≤ (k : Int) := by omega
      have g2 : (e.pos : Int) < (n : Int) := by omega
      have g3 : (0 : Int) ≤ (e.pos : Int) := by omega
      have rp := ent_row he r 82 (0, 0)
      have ri := ent_rowIn he r 82 (0, 0)
      have hlx := over_length (es.take k) xs HX.out (HLIE.out.sub (fun x hx => List.mem_of_mem_take hx))
      have hf := fit_line hlx hen
      have rp2 := rowPut_bk (xs := over xs (es.take k)) (l := e.l) (i := e.pos) (by rw [e.h]; exact hf) r' 40 (0, 0)
      have ri2 := rowHas_bk hf r' 40
      have hs := Lib.hid (show lnPut (over xs (es.take k)) e.pos e.l = over xs (es.take (k + 1)) by rw [← over_snoc, List.take_add_one, he]; rfl)
      have he8 := e.h
      have HE := Lib.hid he
      clear hbe he hlx hf
      go_wp2
      go_roundw
      case rel => exact ⟨k + 1, by omega, by go_num, (hc.alloc _).putRow _ _ _ (.inl (by simp)), by rw [← hs.out]; simp [*]⟩
      case measure => simp [intOf]; omega
    · have : k = es.length := by omega
      subst this
      go_wp2
      go_ret
      rw [List.take_length] at hb
      exact ⟨g', cap', r', rfl, hb, A2.out, by omega, A4.out.trans' hc (by have := A2.out; simp; omega)⟩

/-! ### Read -/
theorem qread_nil (i : Int) (w : World) : Calls Try.prog 15 #[.pointer none, .int .i64 i] w fun e w' => e = .returned (.tuple #[.agg (vs zero8), .int .i64 1]) ∧ Chg [] w w' := by
  go_enter Try.func15, Try.ntmps15
  go_wp2
  refine bodyPost_ret (v := .tuple #[.agg (vs zero8), .int .i64 1]) ?_ (by rfl) ?_
  · exact results_line2 (by rfl) _ _ w.heap.size zero8 (0, 0) (by rfl) (by simp; try rfl) (by rfl) _ (by rfl)
  exact ⟨rfl, (Chg.refl _ _).alloc _⟩
/-- Behind a reading: the device has the same lines. -/
def QRead (w : World) (g b n v : Nat) (xs : List Int) (l : List Int) (er : Int) (e : Ending) (w' : World) : Prop :=
  e = .returned (.tuple #[.agg (vs l), .int .i64 er]) ∧ Chg [g] w w' ∧ Dev w' g b n v xs
theorem qread_ok (q be g b n v room : Nat) (es : List Ent) (xs : List Int) (i : Nat) (w : World) (hq : Que w q be g n room es) (hd : Dev w g b n v xs) (hi : i < n) :
    Calls Try.prog 15 #[.pointer (some ⟨q, 0, none⟩), .int .i64 i] w (QRead w g b n v xs (ln (over xs es) i) 0) := by
  have HQ := Lib.hid hq
  have hle : es.length ≤ 16 := by have := hq.2.1; have := hq.2.2.2.1; omega
  obtain ⟨⟨A, cap, hq, hv⟩, _, _, _, _, hn64, hlie⟩ := hq
  have HLIE := Lib.hid hlie
  have HX := Lib.hid hd.2.2.1
  have c1 := (Chg.refl [] w).alloc (.cells (vs zero8) 40)
  have HG := Lib.hid (show g < w.heap.size from (old hd.1.choose_spec.choose_spec).lt)
  have HD := Lib.hid (hd.keep c1 (by simp) (by simp))
  have HD0 := Lib.hid hd
  have HV := Lib.hid hv
  have HW := Lib.hid c1
  have oq := old hq
  have obe := (HQ.out.olde)
  clear hv hd hlie c1
  go_enter Try.func15, Try.ntmps15
  go_wp2
  go_loop [6] (fun x => ∃ (k : Nat) (z : Int), k ≤ es.length ∧ z = (k : Int) - 1 ∧ x = .int .i64 z ∧ ∀ y ∈ es.drop k, y.pos ≠ i) (fun x => (intOf x + 1).toNat)
  case atStart => exact ⟨es.length, _, by omega, rfl, rfl, by simp⟩
  case round =>
    obtain ⟨k, z, hk, hz, rfl, hno⟩ := hrel
    have HNO := Lib.hid hno
    clear hno
    rcases k with _ | j
    · obtain rfl : z = -1 := by omega
      clear hz
      go_wp2_with fail
      refine (read_ok g b n v i xs _ HD.out hi).mono ?_
      rintro e w2 ⟨rfl, c2, d2⟩
      have hln : ln (over xs es) i = ln xs i := ln_over_none es xs HX.out HLIE.out (by simpa using HNO.out)
      have hf := fit_line HX.out hi
      have hl := ln_length xs i hf
      have hb2 := c2.keep (k := w.heap.size) (x := .cells (vs zero8) 40 (0, 0)) (by simp) (by have := HG.out; simp; omega)
      have ob2 := old hb2
      have D2 := Lib.hid d2
      have C2 := Lib.hid ((HW.out.mono (l' := [g]) (by simp)).trans c2)
      have HLN := Lib.hid hln
      clear d2 c2 hf hln
      go_wp2
      refine bodyPost_ret (v := .tuple #[.agg (vs (ln xs i)), .int .i64 0]) ?_ (by rfl) ?_
      · exact results_line2 (by rfl) _ _ w.heap.size (ln xs i) (0, 0) (by rfl) (by simp [*]) hl _ (by rfl)
      · rw [HLN.out]
        exact ⟨rfl, C2.out.putRow _ _ _ (.inr (Nat.le_refl _)), D2.out.keep ((Chg.refl [w.heap.size] w2).putRow _ _ _ (.inl (by simp))) (by have := HG.out; simp; omega) (by have := (old HD0.out.2.1).lt; simp; omega)⟩
    · obtain rfl : z = (j : Int) := by omega
      clear hz
      have hlt : j < es.length := hk
      obtain ⟨e, he⟩ : ∃ e, es[j]? = some e := ⟨es[j], List.getElem?_eq_getElem hlt⟩
      obtain ⟨_, rfl, r, hbe, _⟩ := HV.out.there (by omega)
      have g1 : (j : Int) < (es.length : Int) := by omega
      have g0 : (0 : Int) ≤ (j : Int) := by omega
      have rc := ent_cell he r
      by_cases hei : e.pos = i
      · subst hei
        have t1 : (e.pos == e.pos) = true := by simp
        have rp := ent_line he r 82 (0, 0)
        have ri := ent_lineIn he r 82 (0, 0)
        have hl := e.h
        have hln := Lib.hid (ln_over_at xs HX.out HLIE.out he HNO.out)
        clear he hk
        go_wp2
        refine bodyPost_ret (v := .tuple #[.agg (vs e.l), .int .i64 0]) ?_ (by rfl) ?_
        · exact results_line2 (by rfl) _ _ w.heap.size e.l (0, 0) (by rfl) (by simp [*]) hl _ (by rfl)
        · rw [hln.out]
          exact ⟨rfl, ((Chg.refl _ _).alloc _), HD0.out.keep ((Chg.refl [] w).alloc _) (by simp) (by simp)⟩
      · have t1 : (e.pos == i) = false := by simpa using hei
        have HN2 := Lib.hid (drop_all he hei HNO.out)
        clear he
        go_wp2
        go_round
        case rel => exact ⟨j, _, by omega, rfl, rfl, HN2.out⟩
        case measure => simp [intOf]
theorem qread_out (q be g b n v room : Nat) (es : List Ent) (xs : List Int) (i : Int) (w : World) (hq : Que w q be g n room es) (hd : Dev w g b n v xs) (hi : ¬ (0 ≤ i ∧ i < n)) :
    Calls Try.prog 15 #[.pointer (some ⟨q, 0, none⟩), .int .i64 i] w fun e w' => e = .returned (.tuple #[.agg (vs zero8), .int .i64 12]) ∧ Chg [] w w' := by
  have HQ := Lib.hid hq
  have HI := Lib.hid hi
  have hle : es.length ≤ 16 := by have := hq.2.1; have := hq.2.2.2.1; omega
  obtain ⟨⟨A, cap, hq, hv⟩, _, _, _, _, hn64, hlie⟩ := hq
  have HLIE := Lib.hid hlie
  have c1 := (Chg.refl [] w).alloc (.cells (vs zero8) 40)
  have HD := Lib.hid (hd.keep c1 (by simp) (by simp))
  have HV := Lib.hid hv
  have oq := old hq
  have obe := (HQ.out.olde)
  clear hv hd hlie c1 hi
  go_enter Try.func15, Try.ntmps15
  go_wp2
  go_loop [6] (fun x => ∃ (k : Nat) (z : Int), k ≤ es.length ∧ z = (k : Int) - 1 ∧ x = .int .i64 z) (fun x => (intOf x + 1).toNat)
  case atStart => exact ⟨es.length, _, by omega, rfl, rfl⟩
  case round =>
    obtain ⟨k, z, hk, hz, rfl⟩ := hrel
    rcases k with _ | j
    · obtain rfl : z = -1 := by omega
      clear hz
      go_wp2_with fail
      refine (read_out g b n v i xs _ HD.out HI.out).mono ?_
      rintro e w2 ⟨rfl, c2⟩
      have hb2 := c2.keep (k := w.heap.size) (x := .cells (vs zero8) 40 (0, 0)) (by simp) (by simp)
      have ob2 := old hb2
      have C2 := Lib.hid (((Chg.refl [] w).alloc (.cells (vs zero8) 40)).trans c2)
      clear c2
      go_wp2
      refine bodyPost_ret (v := .tuple #[.agg (vs zero8), .int .i64 12]) ?_ (by rfl) ?_
      · exact results_line2 (by rfl) _ _ w.heap.size zero8 (0, 0) (by rfl) (by simp [*]) rfl _ (by rfl)
      · exact ⟨rfl, C2.out.putRow _ _ _ (.inr (Nat.le_refl _))⟩
    · obtain rfl : z = (j : Int) := by omega
      clear hz
      have hlt : j < es.length := hk
      obtain ⟨e, he⟩ : ∃ e, es[j]? = some e := ⟨es[j], List.getElem?_eq_getElem hlt⟩
      obtain ⟨_, rfl, r, hbe, _⟩ := HV.out.there (by omega)
      have g1 : (j : Int) < (es.length : Int) := by omega
      have g0 : (0 : Int) ≤ (j : Int) := by omega
      have rc := ent_cell he r
      have t1 : ((e.pos : Int) == i) = false := by
        have h1 : e.pos < n := HLIE.out.get he
        have h2 := HI.out
        simp; omega
      clear he
      go_wp2
      go_round
      case rel => exact ⟨j, _, by omega, rfl, rfl⟩
      case measure => simp [intOf]
end Go.Proofs.Ytaignekkhfjicaa
