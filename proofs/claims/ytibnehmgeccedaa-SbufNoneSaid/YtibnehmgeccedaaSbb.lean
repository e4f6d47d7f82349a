/- What the calls of package sbuf answer, and leave: walked, the rest. No condition. -/
import Derived.Test.YtibnehmgeccedaaSba
namespace Go.Proofs.Ytibnehmgeccedaa
open Go.RowKit
set_option linter.unusedVariables false
set_option maxHeartbeats 1000000

attribute [local go_sem ↓] append_appS copy_copS clear_clrS make_mkS cell_row frozen_row loadSe storeSe loadBuf storeBuf heap_drew heap_drewN heap_alloc heap_past heap_setCell heap_putRow sec_kd sec_li sec_wo sec_va sec_sn bfc_room bfc_first bfc_count
attribute [local go_sem] rowCell_some rowFrozen_some rowHas_some rowIn_some rowPart_full rowPart_lit rowPut_full rowPut_lit rowSet_some size_putRow wideSe wideBuf run_loadS run_storeS run_appS run_copS run_clrS run_mkS loadW_at storeW_at fit_all fit_le fit_pl one_int one_bool one_pointer one_slice allOne_list putRow_new ne_size1 ne_size2 ne_size3 ne_size4 sec_size sec_one sec_lit sec_z sec_ne sec_set0 sec_set1 sec_set2 sec_set3 sec_set4 seZ_kd seZ_li seZ_wo seZ_va seZ_sn fold_sec bfc_size bfc_one bfc_setFirst bfc_setCount bfc_in bfc_has bfc_part bfc_put bfc_sent
attribute [local simp ↓] heap_drew heap_drewN heap_alloc heap_past heap_setCell heap_putRow
attribute [local simp] rowCell_some rowFrozen_some rowHas_some rowIn_some rowPart_full rowPart_lit rowPut_full rowPut_lit rowSet_some size_putRow fit_all fit_pl putRow_new ne_size1 ne_size2 ne_size3 ne_size4 sec_size bfc_size bfc_setFirst bfc_setCount bfc_has bfc_put bfc_sent
attribute [local go_sem ↓] zbuf
attribute [local go_sem] bfc_setRoom bfc_ne
/-! ### The first entry, taken out -/
theorem ring_pop {r : Ring} {f : Nat} {x : Se} {es : List Se} (h : ∀ n e, (x :: es)[n]? = some e → r.get (pl f n) = e) (hl : (x :: es).length ≤ 16) : ∀ n e, es[n]? = some e → (r.put (pl f 0) seZ).get (pl (pl f 1) n) = e := by
  intro n e hn
  have h1 := (List.getElem?_eq_some_iff.1 hn).1
  simp only [List.length_cons] at hl
  rw [pl_next, Ring.put_other _ (pl_ne (by omega) (by omega))]
  exact h (n + 1) e (by simpa using hn)
theorem spop_nil (w : World) : Calls Try.prog 13 #[.pointer none] w fun e w' => e = .returned (.tuple #[.agg (sec seZ), .bool false]) ∧ Chg [] w w' := by
  go_enter Try.func13, Try.ntmps13
  go_wp2_with fail
  have hx : (w.alloc (.cells (sec seZ) 33)).heap[w.heap.size]? = some (.cells (sec seZ) 33 (0, 0)) := by simp
  have HC := Lib.hid ((Chg.refl [] w).alloc (.cells (sec seZ) 33))
  generalize hp : w.heap.size = p at hx ⊢
  have HP := Lib.hid hp
  clear hp
  generalize w.alloc (.cells (sec seZ) 33) = w1 at hx HC ⊢
  refine (shead_nil w1).mono ?_
  rintro e w2 ⟨rfl, c2⟩
  have hx2 := c2.keep hx (by simp)
  have ox2 := old hx2
  have HC2 := Lib.hid (HC.out.trans c2)
  clear hx c2
  go_wp2_with fail
  refine bodyPost_ret (v := .tuple #[.agg (sec seZ), .bool false]) ?_ (by rfl) ?_
  · exact results_se2 (by rfl) _ _ p seZ (0, 0) (by rfl) (by simp [*]; try rfl) _ (by rfl)
  exact ⟨rfl, (HC2.out.alloc _).putRow _ _ _ (.inr (by have := HP.out; omega))⟩
theorem spop_ok {w : World} {q room : Nat} {es : List Se} (hb : Buf w q room es) : Calls Try.prog 13 #[.pointer (some ⟨q, 0, none⟩)] w (BufTo w q room es.tail (.tuple #[.agg (sec (hdE es)), .bool (hdB es)])) := by
  have HB := Lib.hid (hb.keep ((Chg.refl [] w).alloc (.cells (sec seZ) 33)) (by simp))
  have oq := hb.oldq
  clear hb
  have hx : (w.alloc (.cells (sec seZ) 33)).heap[w.heap.size]? = some (.cells (sec seZ) 33 (0, 0)) := by simp
  have HC := Lib.hid ((Chg.refl [] w).alloc (.cells (sec seZ) 33))
  have HPQ := Lib.hid (show w.heap.size ≠ q from by have := oq.lt; omega)
  go_enter Try.func13, Try.ntmps13
  go_wp2_with fail
  generalize hp : w.heap.size = p at hx HPQ ⊢
  have HP := Lib.hid hp
  clear hp
  generalize w.alloc (.cells (sec seZ) 33) = w1 at HB hx HC ⊢
  refine (shead_ok HB.out).mono ?_
  rintro e w2 ⟨rfl, c2⟩
  have hx2 := c2.keep hx (by simp)
  have ox2 := old hx2
  have HC2 := Lib.hid (HC.out.trans c2)
  have HB2 := Lib.hid (HB.out.keep c2 (by simp))
  have oq2 := HB2.out.oldq
  clear hx c2 HB
  rcases es with _ | ⟨x, es⟩
  · rw [show hdE [] = seZ from rfl, show hdB [] = false from rfl]
    go_wp2_with fail
    refine bodyPost_ret (v := .tuple #[.agg (sec seZ), .bool false]) ?_ (by rfl) ?_
    · exact results_se2 (by rfl) _ _ p seZ (0, 0) (by rfl) (by simp [*]; try rfl) _ (by rfl)
    have hc := ((Chg.refl [] w2).alloc (.cells (sec seZ) 33))
    have hc2 : Chg [p] (w2.alloc (.cells (sec seZ) 33)) (putRow (w2.alloc (.cells (sec seZ) 33)) p 0 (sec seZ)) := (Chg.refl _ _).putRow _ _ _ (.inl (by simp))
    refine ⟨rfl, (((HC2.out.trans hc).mono (l' := [q]) (by simp)).putRow _ _ _ (.inr (by have := HP.out; omega))), (HB2.out.keep hc (by simp)).keep hc2 (by simpa using Ne.symm HPQ.out)⟩
  · rw [show hdE (x :: es) = x from rfl, show hdB (x :: es) = true from rfl, show (x :: es).tail = es from rfl]
    have hy : (w2.alloc (.cells (sec x) 33)).heap[w2.heap.size]? = some (.cells (sec x) 33 (0, 0)) := by simp
    have c3 := (Chg.refl [] w2).alloc (.cells (sec x) 33)
    have hx3 := c3.keep hx2 (by simp)
    have HB3 := Lib.hid (HB2.out.keep c3 (by simp))
    have HC3 := Lib.hid (HC2.out.trans c3)
    have HPY := Lib.hid (show w2.heap.size ≠ p from by have := ox2.lt; omega)
    have HQY := Lib.hid (show w2.heap.size ≠ q from by have := oq2.lt; omega)
    clear hx2 c3 HB2 HC2
    go_wp2_with fail
    generalize w2.heap.size = y at hy HPY HQY ⊢
    generalize w2.alloc (.cells (sec x) 33) = w3 at hx3 hy HB3 HC3 ⊢
    obtain ⟨r, f, hq, hf, hall, hle⟩ := HB3.out
    have HF := Lib.hid hf
    have HA := Lib.hid (ring_pop hall (by omega))
    have HL := Lib.hid hle
    clear hf hall hle
    refine (sat_c (n := 0) HF.out (by omega) hq).mono ?_
    rintro e w4 ⟨rfl, c4⟩
    have hq4 := c4.keep hq (by simp)
    have hx4 := c4.keep hx3 (by simp)
    have hy4 := c4.keep hy (by simp)
    have HC4 := Lib.hid (HC3.out.trans c4)
    have oq4 := old hq4
    have ox4 := old hx4
    have oy4 := old hy4
    clear hq hx3 hy c4
    go_wp2_with fail
    have c5 : Chg [q] w4 (putRow w4 q (1 + pl f 0 * 5) (sec seZ)) := (Chg.refl [q] w4).putRow _ _ _ (.inl (by simp))
    have hq5 : (putRow w4 q (1 + pl f 0 * 5) (sec seZ)).heap[q]? = some (.cells (bfc room (r.put (pl f 0) seZ) f (x :: es).length) 64 (0, 0)) := by
      rw [heap_putRow _ _ _ _ _ (by rw [hq4, sec_size]; exact bfc_has _ _ _ _ _ _), if_pos rfl, hq4, bfc_put]
    have hx5 := c5.keep hx4 (by simpa using HPQ.out)
    have hy5 := c5.keep hy4 (by simpa using HQY.out)
    have HC5 := Lib.hid ((HC4.out.mono (l' := [q]) (by simp)).trans c5)
    clear hq4 hx4 hy4 c5 oq4 ox4 oy4
    generalize putRow w4 q (1 + pl f 0 * 5) (sec seZ) = w5 at hq5 hx5 hy5 HC5 ⊢
    refine (splace_at (n := 1) HF.out (by omega) hq5).mono ?_
    rintro e w6 ⟨rfl, rfl⟩
    have oq5 := old hq5
    have ox5 := old hx5
    have oy5 := old hy5
    have ne1 : (p = q) = False := eq_false HPQ.out
    have ne2 : (y = q) = False := eq_false HQY.out
    have ne3 : (y = p) = False := eq_false HPY.out
    have hlen : (((x :: es).length : Int) - 1) = ((es.length : Nat) : Int) := by simp
    have hlb : (((x :: es).length : Nat) : Int) ≤ 16 := by have := HL.out; omega
    have hlb0 : (1 : Int) ≤ (((x :: es).length : Nat) : Int) := by rw [List.length_cons]; omega
    have HLE := Lib.hid (show es.length ≤ (x :: es).length by simp)
    generalize (x :: es).length = m at hq5 hlen hlb hlb0 HL HLE ⊢
    go_wp2_with fail
    have h6 : ((w5.setCell ⟨q, 81, none⟩ (.int .i64 (pl f 1))).setCell ⟨q, 82, none⟩ (.int .i64 es.length)).heap[q]? = some (.cells (bfc room (r.put (pl f 0) seZ) (pl f 1) es.length) 64 (0, 0)) := by
      rw [heap_setCell, if_pos rfl, heap_setCell, if_pos rfl, hq5, rowSet_some, rowSet_some, bfc_setFirst, bfc_setCount]
    have c6 : Chg [q] w5 ((w5.setCell ⟨q, 81, none⟩ (.int .i64 (pl f 1))).setCell ⟨q, 82, none⟩ (.int .i64 es.length)) := ((Chg.refl [q] w5).setCell _ _ _ (.inl (by simp))).setCell _ _ _ (.inl (by simp))
    have hx6 := c6.keep hx5 (by simpa using HPQ.out)
    generalize (w5.setCell ⟨q, 81, none⟩ (.int .i64 (pl f 1))).setCell ⟨q, 82, none⟩ (.int .i64 es.length) = w6 at h6 c6 hx6 ⊢
    have c7 : Chg [p] w6 (putRow w6 p 0 (sec x)) := (Chg.refl [p] w6).putRow _ _ _ (.inl (by simp))
    refine bodyPost_ret (v := .tuple #[.agg (sec x), .bool true]) ?_ (by rfl) ?_
    · exact results_se2 (by rfl) _ _ p x (0, 0) (by rfl) (by simp [hx6]; try rfl) _ (by rfl)
    refine ⟨rfl, (HC5.out.trans c6).trans' c7 (by have := HP.out; simp; omega), r.put (pl f 0) seZ, pl f 1, c7.keep h6 (by simpa using Ne.symm HPQ.out), pl_lt _ _, HA.out, by have := HL.out; have := HLE.out; show es.length ≤ room; omega, HL.out.2.1, HL.out.2.2⟩
/-! ### A flush that is the first entry, sent -/
theorem ssend_nil (w : World) : Calls Try.prog 18 #[.pointer none] w fun e w' => e = .returned (.tuple #[]) ∧ Chg [] w w' := by
  go_enter Try.func18, Try.ntmps18
  go_wp2_with fail
  refine (shead_nil w).mono ?_
  rintro e w2 ⟨rfl, c2⟩
  go_wp2_with fail
  go_end0
  exact ⟨rfl, c2.alloc _⟩
theorem ring_send {r : Ring} {f : Nat} {x : Se} {es : List Se} (h : ∀ n e, (x :: es)[n]? = some e → r.get (pl f n) = e) (hl : (x :: es).length ≤ 16) : ∀ n e, (sent x :: es)[n]? = some e → (r.put (pl f 0) (sent (r.get (pl f 0)))).get (pl f n) = e := by
  intro n e hn
  have h0 := h 0 x rfl
  rcases n with _ | n
  · rw [Ring.put_same _ (pl_lt _ _), h0]
    simpa [sent] using hn
  · have h1 := (List.getElem?_eq_some_iff.1 hn).1
    simp only [List.length_cons] at hl h1
    rw [Ring.put_other _ (pl_ne (by omega) (by omega))]
    exact h (n + 1) e (by simpa using hn)
theorem ssend_ok {w : World} {q room : Nat} {es : List Se} (hb : Buf w q room es) : Calls Try.prog 18 #[.pointer (some ⟨q, 0, none⟩)] w (BufTo w q room (sdE es) (.tuple #[])) := by
  have HB := Lib.hid hb
  clear hb
  go_enter Try.func18, Try.ntmps18
  go_wp2_with fail
  refine (shead_ok HB.out).mono ?_
  rintro e w2 ⟨rfl, c2⟩
  have HB2 := Lib.hid (HB.out.keep c2 (by simp))
  have oq2 := HB2.out.oldq
  have HC2 := Lib.hid c2
  clear c2 HB
  rcases es with _ | ⟨x, es⟩
  · rw [show hdE [] = seZ from rfl, show hdB [] = false from rfl]
    go_wp2_with fail
    go_end0
    have hc := ((Chg.refl [] w2).alloc (.cells (sec seZ) 33))
    exact ⟨rfl, (HC2.out.trans hc).mono (by simp), HB2.out.keep hc (by simp)⟩
  · rw [show hdE (x :: es) = x from rfl, show hdB (x :: es) = true from rfl]
    by_cases h14 : x.kd = 14
    · have HS := Lib.hid (show sdE (x :: es) = sent x :: es by simp [sdE, h14])
      have t14 : (x.kd == 14) = true := by simp [h14]
      have hy : (w2.alloc (.cells (sec x) 33)).heap[w2.heap.size]? = some (.cells (sec x) 33 (0, 0)) := by simp
      have c3 := (Chg.refl [] w2).alloc (.cells (sec x) 33)
      have HB3 := Lib.hid (HB2.out.keep c3 (by simp))
      have HC3 := Lib.hid (HC2.out.trans c3)
      clear c3 HB2 HC2 h14
      go_wp2_with fail
      generalize w2.heap.size = y at hy ⊢
      generalize w2.alloc (.cells (sec x) 33) = w3 at hy HB3 HC3 ⊢
      obtain ⟨r, f, hq, hf, hall, hle⟩ := HB3.out
      have HF := Lib.hid hf
      have HA := Lib.hid (ring_send hall (by omega))
      have HL := Lib.hid hle
      clear hf hall hle hy
      refine (sat_c (n := 0) HF.out (by omega) hq).mono ?_
      rintro e w4 ⟨rfl, c4⟩
      have hq4 := c4.keep hq (by simp)
      have HC4 := Lib.hid (HC3.out.trans c4)
      have oq4 := old hq4
      clear hq c4
      generalize hm : (x :: es).length = m at hq4 HL
      have HM := Lib.hid (show (sent x :: es).length = m from hm)
      clear hm
      have h83 : (bfc room r f m)[1 + pl f 0 * 5 + 4]? = some (.bool (r.get (pl f 0)).sn) := bfc_sn _ _ _ _ _
      go_wp2_with fail
      go_end0
      refine ⟨rfl, (HC4.out.mono (l' := [q]) (by simp)).setCell _ _ _ (.inl (by simp)), ?_⟩
      rw [HS.out]
      refine ⟨r.put (pl f 0) (sent (r.get (pl f 0))), f, ?_, HF.out, HA.out, by rw [HM.out]; exact HL.out⟩
      rw [heap_setCell, if_pos rfl, hq4, bfc_sent, HM.out]
    · have HS := Lib.hid (show sdE (x :: es) = x :: es by simp [sdE, h14])
      have t14 : (x.kd == 14) = false := by simpa using h14
      clear h14
      go_wp2_with fail
      go_end0
      have hc := ((Chg.refl [] w2).alloc (.cells (sec x) 33))
      exact ⟨rfl, (HC2.out.trans hc).mono (by simp), by rw [HS.out]; exact HB2.out.keep hc (by simp)⟩
/-! ### All taken out -/
theorem sclear_nil (w : World) : Calls Try.prog 20 #[.pointer none] w fun e w' => e = .returned (.tuple #[]) ∧ w = w' := by
  go_enter Try.func20, Try.ntmps20
  go_wp2_with fail
  refine bodyPost_ret (results_none rfl _ _ _) rfl ?_
  exact ⟨rfl, rfl⟩
theorem sclear_ok {w : World} {q room : Nat} {es : List Se} (hb : Buf w q room es) : Calls Try.prog 20 #[.pointer (some ⟨q, 0, none⟩)] w (BufTo w q room [] (.tuple #[])) := by
  obtain ⟨r, f, hq, hf, hall, hle⟩ := hb
  have HL := Lib.hid hle
  clear hf hall hle
  go_enter Try.func20, Try.ntmps20
  go_wp2_with fail
  go_end0
  refine ⟨rfl, (Chg.refl [q] w).putRow _ _ _ (.inl (by simp)), ringZ, 0, ?_, by omega, by simp, by simp, HL.out.2.1, HL.out.2.2⟩
  rw [heap_putRow _ _ _ _ _ (by rw [hq, rowHas_some, bfc_size, bfc_size]; simp), if_pos rfl, hq, rowPut_full _ _ _ _ (by rw [bfc_size, bfc_size])]
  rfl
/-! ### The last store of a place -/
theorem sfind_nil (li wo : Int) (w : World) : Calls Try.prog 16 #[.pointer none, .int .i64 li, .int .i64 wo] w fun e w' => e = .returned (.tuple #[.int .u64 0, .bool false]) ∧ Chg [] w w' := by
  go_enter Try.func16, Try.ntmps16
  go_wp2_with (go_at_call 21; refine (slen_nil _).mono ?_; rintro e w' ⟨rfl, rfl⟩)
  go_loop [8] (fun x => x = .int .i64 (-1)) (fun x => 0)
  case atStart => rfl
  case round =>
    subst hrel
    go_wp2_with fail
    go_ret2
    exact ⟨rfl, Chg.refl _ _⟩
theorem sfind_ok {w : World} {q room : Nat} {es : List Se} (li wo : Int) (hb : Buf w q room es) : Calls Try.prog 16 #[.pointer (some ⟨q, 0, none⟩), .int .i64 li, .int .i64 wo] w fun e w' => e = .returned (.tuple #[.int .u64 (fdV es li wo), .bool (fdB es li wo)]) ∧ Chg [] w w' := by
  have HB := Lib.hid hb
  have hl16 : (es.length : Int) ≤ 16 := by have := hb.le; omega
  clear hb
  go_enter Try.func16, Try.ntmps16
  go_wp2_with (go_at_call 21; refine (slen_ok HB.out).mono ?_; rintro e w' ⟨rfl, rfl⟩)
  go_loopw [8] (fun x wr => ∃ (k : Nat) (z : Int), k ≤ es.length ∧ z = (k : Int) - 1 ∧ x = .int .i64 z ∧ Chg [] w wr ∧ ∀ y ∈ es.drop k, isAt li wo y = false) (fun x _ => (intOf x + 1).toNat)
  case atStart => exact ⟨es.length, _, by omega, rfl, rfl, Chg.refl _ _, by simp⟩
  case round =>
    obtain ⟨k, z, hk, hz, rfl, hc, hno⟩ := hrel
    have HNO := Lib.hid hno
    have HC := Lib.hid hc
    clear hno hc
    rcases k with _ | j
    · obtain rfl : z = -1 := by omega
      clear hz
      have hn : fdO es li wo = none := fdO_none (by simpa using HNO.out)
      have HH := Lib.hid hn
      clear hn
      go_wp2_with fail
      go_ret2
      have hn := HH.out
      exact ⟨by rw [show fdV es li wo = 0 by simp [fdV, hn], show fdB es li wo = false by simp [fdB, hn]]; rfl, HC.out⟩
    · obtain rfl : z = (j : Int) := by omega
      clear hz
      obtain ⟨e, he⟩ : ∃ e, es[j]? = some e := ⟨es[j], List.getElem?_eq_getElem hk⟩
      have HE := Lib.hid he
      have g0 : (0 : Int) ≤ (j : Int) := by omega
      have g1 : (j : Int) ≤ 16 := by omega
      have HJ := Lib.hid hk
      clear he hk
      obtain ⟨r, f, hq, hf, hall, hle⟩ := HB.out.keep HC.out (by simp)
      have hget := hall j e HE.out
      have HF := Lib.hid hf
      clear hall hle hf
      go_wp2_with fail
      refine (sat_c HF.out (by omega) hq).mono ?_
      rintro a w2 ⟨rfl, c2⟩
      have hq2 := c2.keep hq (by simp)
      have oq2 := old hq2
      have HC2 := Lib.hid (HC.out.trans c2)
      have b0 : (bfc room r f es.length)[1 + pl f j * 5]? = some (.int .i64 e.kd) := hget ▸ bfc_kd _ _ _ _ _
      have b1 : (bfc room r f es.length)[1 + pl f j * 5 + 1]? = some (.int .i64 e.li) := hget ▸ bfc_li _ _ _ _ _
      have b2 : (bfc room r f es.length)[1 + pl f j * 5 + 2]? = some (.int .i64 e.wo) := hget ▸ bfc_wo _ _ _ _ _
      have b3 : (bfc room r f es.length)[1 + pl f j * 5 + 3]? = some (.int .u64 e.va) := hget ▸ bfc_va _ _ _ _ _
      clear hq c2 hget
      cases hat : isAt li wo e
      · have HN2 := Lib.hid (drop_all12 HE.out hat HNO.out)
        have hp : (e.kd == 9) = false ∨ (e.kd == 9) = true ∧ (e.li == li) = false ∨ (e.kd == 9) = true ∧ (e.li == li) = true ∧ (e.wo == wo) = false := by
          unfold isAt at hat
          cases h1 : (e.kd == 9) <;> cases h2 : (e.li == li) <;> cases h3 : (e.wo == wo) <;> simp_all
        clear hat
        rcases hp with t | ⟨t, t1⟩ | ⟨t, t1, t2⟩
        all_goals
          go_wp2_with fail
          go_roundw
          case rel => exact ⟨j, _, by have := HJ.out; omega, rfl, rfl, HC2.out, HN2.out⟩
          case measure => simp [intOf]
      · have hn : fdO es li wo = some e := fdO_some HE.out hat HNO.out
        have HH := Lib.hid hn
        obtain ⟨t, t1, t2⟩ : (e.kd == 9) = true ∧ (e.li == li) = true ∧ (e.wo == wo) = true := by simpa [isAt] using hat
        clear hn hat
        go_wp2_with fail
        go_ret2
        have hn := HH.out
        exact ⟨by rw [show fdV es li wo = e.va by simp [fdV, hn], show fdB es li wo = true by simp [fdB, hn]]; rfl, HC2.out⟩

/-! ### All entries told -/
theorem se_info : (Try.prog.info? 33).map (fun i => (i.zero, i.size, i.bytes)) = some (some sezV, 5, 40) := by kernel_rfl
theorem eltSe : Elt Try.prog 52 33 5 40 sezV Se.enc where
  slice := Try.underlying52
  info := se_info
  zero := sezV_size
  zone := sezV_one
  pos := by omega
  len := Se.len
  one := Se.one
theorem made_se (n : Nat) : madeCells sezV.cells (n * 5) = sq Se.enc (List.replicate n seZ) [] := by
  apply Array.ext
  · rw [sq_size Se.len]
    simp [madeCells]
  · intro k h1 h2
    have hk : k < n * 5 := by simpa [madeCells] using h1
    obtain ⟨i, j, hj, rfl⟩ : ∃ i j, j < 5 ∧ k = i * 5 + j := ⟨k / 5, k % 5, Nat.mod_lt _ (by omega), by omega⟩
    have hi : i < n := by omega
    have h3 := sq_cell (enc := Se.enc) Se.len (xs := List.replicate n seZ) (i := i) (a := seZ) (by simp [hi]) [] j hj
    rw [Array.getElem?_eq_getElem h2] at h3
    have h5 : j = 0 ∨ j = 1 ∨ j = 2 ∨ j = 3 ∨ j = 4 := by omega
    have h6 : (i * 5 + j) % 5 = j := by omega
    have h7 : sezV.cells.size = 5 := sezV_size
    apply Option.some.inj
    rw [h3]
    simp only [madeCells, Array.getElem_map, Array.getElem_range, h7, h6]
    rcases h5 with rfl | rfl | rfl | rfl | rfl <;> rfl
theorem run_make_se (w : World) (n : Nat) (hn : n ≤ 1000) : mkR Try.prog 52 (.int .i64 n) (.int .i64 n) w = .ok (.slice (some ⟨w.heap.size, 0, none⟩) n n) (w.alloc (.cells (sq Se.enc (List.replicate n seZ) []) 33)) := by
  obtain ⟨i0, hi0, hz0, hz1, hz2⟩ := info_parts se_info
  have := run_make (P := Try.prog) w 52 33 i0 _ Try.underlying52 hi0 hz0 .i64 .i64 n n (by omega) (by omega) (by rw [hz2]; omega) (by omega)
  simp only [Int.toNat_natCast, hz1] at this
  rw [← made_se]
  exact this
/-- The first k of the entries, then none. -/
def fillE (es : List Se) (k : Nat) : List Se := es.take k ++ List.replicate (es.length - k) seZ
theorem fillE_zero (es : List Se) : fillE es 0 = List.replicate es.length seZ := by simp [fillE]
theorem fillE_all (es : List Se) : fillE es es.length = es := by simp [fillE]
theorem fillE_length (es : List Se) (k : Nat) (h : k ≤ es.length) : (fillE es k).length = es.length := by simp [fillE]; omega
theorem fillE_succ {es : List Se} {k : Nat} {e : Se} (h : es[k]? = some e) : splice (fillE es k) k [e] = fillE es (k + 1) := by
  obtain ⟨hk, rfl⟩ := List.getElem?_eq_some_iff.1 h
  unfold fillE splice
  have e1 : (es.take k).length = k := by simp; omega
  obtain ⟨m, hm⟩ : ∃ m, es.length - k = m + 1 := ⟨es.length - k - 1, by omega⟩
  rw [hm, show es.length - (k + 1) = m by omega, List.take_append_of_le_length (by omega), List.take_of_length_le (by omega), List.take_succ_eq_append_getElem hk]
  rw [List.drop_append, List.drop_eq_nil_of_le (by rw [e1]; simp), e1]
  simp
theorem sall_nil (w : World) : Calls Try.prog 23 #[.pointer none] w fun e w' => ∃ A c, e = .returned (.slice A 0 c) ∧ Chg [] w w' := by
  have hmk : mkR Try.prog 52 (.int .i64 0) (.int .i64 0) w = .ok (.slice (some ⟨w.heap.size, 0, none⟩) 0 0) (w.alloc (.cells #[] 33)) := run_make_se w 0 (by omega)
  go_enter Try.func23, Try.ntmps23
  go_wp2_with (go_at_call 21; refine (slen_nil _).mono ?_; rintro e w' ⟨rfl, rfl⟩)
  go_loop [10] (fun x => x = .int .i64 0) (fun x => 0)
  case atStart => rfl
  case round =>
    subst hrel
    go_wp2_with fail
    go_ret
    exact ⟨⟨_, _, rfl⟩, (Chg.refl _ _).alloc _⟩
/-- Entries told in a block of their own. -/
def SeTold (w : World) (es : List Se) (e : Ending) (w' : World) : Prop := ∃ b, e = .returned (.slice (some ⟨b, 0, none⟩) es.length es.length) ∧ w.heap.size ≤ b ∧ Chg [] w w' ∧ w'.heap[b]? = some (.cells (sq Se.enc es []) 33 (0, 0))
theorem sall_ok {w : World} {q room : Nat} {es : List Se} (hb : Buf w q room es) : Calls Try.prog 23 #[.pointer (some ⟨q, 0, none⟩)] w (SeTold w es) := by
  have HB := Lib.hid hb
  have oq := hb.oldq
  have hl16 : (es.length : Int) ≤ 16 := by have := hb.le; omega
  have hmk := run_make_se w es.length (by omega)
  have c1 := (Chg.refl [] w).alloc (.cells (sq Se.enc (List.replicate es.length seZ) []) 33)
  have hb1 : (w.alloc (.cells (sq Se.enc (List.replicate es.length seZ) []) 33)).heap[w.heap.size]? = some (.cells (sq Se.enc (List.replicate es.length seZ) []) 33 (0, 0)) := by simp
  generalize w.alloc (.cells (sq Se.enc (List.replicate es.length seZ) []) 33) = w1 at hmk c1 hb1
  have HB1 := Lib.hid hb1
  have HC1 := Lib.hid c1
  have HN := Lib.hid (show w.heap.size ≠ q by have := oq.lt; omega)
  clear hb hb1 c1
  go_enter Try.func23, Try.ntmps23
  go_wp2_with (go_at_call 21; refine (slen_ok HB.out).mono ?_; rintro e w' ⟨rfl, rfl⟩)
  generalize hp : w.heap.size = p at HB1 HN
  have HP := Lib.hid hp
  clear hp
  go_loopw [4, 10] (fun _ i wr => ∃ k : Nat, k ≤ es.length ∧ i = .int .i64 k ∧ Chg [p] w1 wr ∧ wr.heap[p]? = some (.cells (sq Se.enc (fillE es k) []) 33 (0, 0))) (fun _ i _ => es.length - (intOf i).toNat)
  case atStart => exact ⟨0, by omega, rfl, Chg.refl _ _, by rw [fillE_zero]; exact HB1.out⟩
  case round =>
    obtain ⟨k, hk, rfl, hc, hb⟩ := hrel
    have HC := Lib.hid hc
    have hb2 := (HB.out.keep HC1.out (by simp)).keep hc (by simpa using Ne.symm HN.out)
    by_cases hlt : k < es.length
    · obtain ⟨e, he⟩ : ∃ e, es[k]? = some e := ⟨es[k], List.getElem?_eq_getElem hlt⟩
      have HE := Lib.hid he
      obtain ⟨r, f, hq, hf, hall, hle⟩ := hb2
      have hget := hall k e he
      have HF := Lib.hid hf
      have HLT := Lib.hid hlt
      have g1 : (k : Int) < (es.length : Int) := by omega
      have g0 : (0 : Int) ≤ (k : Int) := by omega
      have hpart := bfc_part room r f es.length 64 (0, 0) k
      rw [hget] at hpart
      clear hall hle hf hc he hlt hget
      go_wp2_with fail
      refine (sat_c HF.out (by omega) hq).mono ?_
      rintro a w2 ⟨rfl, c2⟩
      have hq2 := c2.keep hq (by simp)
      have hb3 := c2.keep hb (by simp)
      have HC2 := Lib.hid (HC.out.trans (c2.mono (by simp)))
      have oq2 := old hq2
      have ob2 := old hb3
      have hln := fillE_length es k (by omega)
      have rh : rowHas (some (.cells (sq Se.enc (fillE es k) []) 33 (0, 0))) (k * 5) 5 = true := by
        rw [rowHas_some, sq_size Se.len, hln]; exact decide_eq_true (show _ ≤ _ by have := HLT.out; simp; omega)
      have rf : Fit (k * 5) 5 (sq Se.enc (fillE es k) []).size = True := by
        rw [sq_size Se.len, hln]; exact eq_true (show _ ≤ _ by have := HLT.out; simp; omega)
      have HR := Lib.hid rh
      have HH := Lib.hid hb3
      clear hq c2 hln hb
      go_wp2_with fail
      have h9 : (putRow w2 p (k * 5) (sec e)).heap[p]? = some (.cells (sq Se.enc (fillE es (k + 1)) []) 33 (0, 0)) := by
        rw [heap_putRow _ _ _ _ _ (by rw [HH.out, sec_size]; exact HR.out), if_pos rfl, HH.out, rowPut_some, sq_toList, sec_enc, List.toList_toArray, List.append_nil, ← cat_one (enc := Se.enc) e, cat_splice Se.len, fillE_succ HE.out]
        simp [sq]
      go_roundw
      case rel => exact ⟨k + 1, by have := HLT.out; omega, by go_num, HC2.out.putRow _ _ _ (.inl (by simp)), h9⟩
      case measure => simp [intOf]; omega
    · have : k = es.length := by omega
      subst this
      go_wp2_with fail
      go_ret
      rw [fillE_all] at hb
      exact ⟨p, rfl, by have := HP.out; omega, HC1.out.trans' HC.out (by have := HP.out; simp; omega), hb⟩
end Go.Proofs.Ytibnehmgeccedaa
