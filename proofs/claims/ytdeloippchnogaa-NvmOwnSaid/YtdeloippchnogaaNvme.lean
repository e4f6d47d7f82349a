/- NvmOwn, walked. No condition. -/
import Derived.Test.YtdeloippchnogaaNvmd
namespace Go.Proofs.Ytdeloippchnogaa
open Go.RowKit
set_option linter.unusedVariables false
attribute [local go_sem ↓] append_appS copy_copS clear_clrS make_mkS cell_row frozen_row loadLine storeLine heap_drew heap_drewN heap_alloc heap_past heap_setCell heap_putRow
attribute [local go_sem] rowCell_some rowFrozen_some rowHas_some rowIn_some rowPart_full rowPart_lit rowPut_full rowPut_lit rowSet_some size_putRow vs_size vs_one wideLine run_loadS run_storeS run_appS run_copS run_clrS run_mkS loadW_at storeW_at fit_all one_int one_bool one_pointer one_slice allOne_list putRow_new ne_size1 ne_size2 ne_size3 ne_size4 zero8_length lines_nil
attribute [local simp ↓] heap_drew heap_drewN heap_alloc heap_past heap_setCell heap_putRow
attribute [local simp] rowCell_some rowFrozen_some rowHas_some rowIn_some rowPart_full rowPart_lit rowPut_full rowPut_lit rowSet_some size_putRow vs_size fit_all putRow_new ne_size1 ne_size2 ne_size3 ne_size4 zero8_length


attribute [local go_sem ↓] vs_get loadStep storeStep
attribute [local go_sem] line_eq lit8 wideStep

attribute [local go_sem] vs_set

theorem own_any (ln0 : Int) (n0 : 0 ≤ ln0) (n1 : ln0 ≤ 255) (l : List Int) (hl8 : l.length = 8) (A : Option Addr) (m c : Nat) (xs : List Int) (W : World) (hs : Sl W 8 A m (xs.map (Value.int .u64))) (hm : m ≤ maxLen) :
    Calls Try.prog 6 #[.slice A m c, .int .u8 ln0, .agg (vs l)] W fun e w' => e = .returned (.bool true) ∧ Chg [] W w' := by
  unfold maxLen at hm
  obtain ⟨k, hk⟩ : ∃ k : Nat, ln0 % 6 = (k : Int) := ⟨(ln0 % 6).toNat, by omega⟩
  have k6 : k < 6 := by omega
  have g0 : (0 : Int) ≤ (k : Int) := by omega
  have g1 : (k : Int) < 6 := by omega
  have HS := Lib.hid hs
  have HX := Lib.hid (show xs.length = m * 8 by simpa using hs.1)
  clear hs
  go_enter Try.func6, Try.ntmps6
  go_wp2_with fail
  have hx0 : (W.alloc (.cells (vs l) 34)).heap[W.heap.size]? = some (.cells (vs l) 34 (0, 0)) := by simp
  have C0 := Lib.hid ((Chg.refl [] W).alloc (.cells (vs l) 34))
  generalize W.alloc (.cells (vs l) 34) = w0 at hx0 C0 ⊢
  refine (new_ok 6 1 w0 (by omega) (by omega) (by omega) (by omega)).mono ?_
  rintro e w1 ⟨rfl, c1, d1, z1⟩
  have hx1 := c1.keep hx0 (by simp)
  have D1 := Lib.hid d1
  have C1 := Lib.hid (C0.out.trans c1)
  have HW := Lib.hid (old hx0).lt
  clear d1 c1 z1 hx0
  by_cases h6 : m = 6
  · subst h6
    have t1 : ((6 : Nat) != 6) = false := rfl
    obtain ⟨b0, o0, rfl⟩ := HS.out.addr (by omega)
    obtain ⟨cap, r, hcap, hcl⟩ := clone_run w1 _ 6 c xs (HS.out.chg C1.out (by simp)) (by omega) (by omega)
    have hx2 : ((w1.alloc (.cells #[] 34)).drew.alloc (.cells (bk xs r) 34)).heap[w1.heap.size + 1]? = some (.cells (bk xs r) 34 (0, 0)) := by simp
    have c2 := (((Chg.refl [] w1).alloc (.cells #[] 34)).drew).alloc (.cells (bk xs r) 34)
    generalize (w1.alloc (.cells #[] 34)).drew.alloc (.cells (bk xs r) 34) = w2 at hcl hx2 c2
    have D2 := Lib.hid (D1.out.keep c2 (by simp) (by simp))
    have hx1' := c2.keep hx1 (by simp)
    have C2 := Lib.hid c2
    have hgi := Lib.hid (show W.heap.size < w1.heap.size ∧ w0.heap.size + 1 < w1.heap.size from ⟨(old hx1).lt, (old D1.out.1.choose_spec.choose_spec).lt⟩)
    clear c2 hx1
    go_wp2_with fail
    have hsl := Lib.hid (Sl.of_bk (n := 6) hx2 HX.out)
    refine (restore_ok _ _ 6 1 _ xs _ cap _ D2.out hsl.out).mono ?_
    rintro e w3 ⟨rfl, c3, d3⟩
    have hg := hgi.out
    have hW := HW.out
    have hx3 := c3.keep hx2 (by simp; omega)
    have hl3 := c3.keep hx1' (by simp; omega)
    have C3 := Lib.hid ((C1.out.trans C2.out).trans' c3 (by simp; omega))
    have D3 := Lib.hid d3
    have hf : Fit (k * 8) 8 xs.length := by rw [HX.out]; unfold Fit; omega
    have rp := rowPut_bk (xs := xs) (l := [123, 0, 0, 0, 0, 0, 0, 0]) (i := k) hf r 34 (0, 0)
    have ri := rowHas_bk (xs := xs) (i := k) hf r 34
    have hln := Lib.hid (ln_length xs k hf)
    have o3 := old hx3
    have hff := Lib.hid hf
    clear c3 d3 hg hW hx2 hx1' hf hcl
    go_wp2_with fail
    have c4 : Chg [w1.heap.size + 1] w3 (putRow w3 (w1.heap.size + 1) (k * 8) (vs [123, 0, 0, 0, 0, 0, 0, 0])) := (Chg.refl _ _).putRow _ _ _ (.inl (by simp))
    generalize putRow w3 (w1.heap.size + 1) (k * 8) (vs [123, 0, 0, 0, 0, 0, 0, 0]) = w4 at c4 ⊢
    have hg := hgi.out
    have hW := HW.out
    have D4 := Lib.hid (D3.out.keep c4 (by simp; omega) (by simp; omega))
    have hl4 := c4.keep hl3 (by simp; omega)
    have C4 := Lib.hid (C3.out.trans' c4 (by simp; omega))
    clear c4 hx3 hl3 o3 rp ri
    refine (image_ok _ _ 6 1 xs _ D4.out).mono ?_
    rintro e w5 ⟨go, co, ro, rfl, b1, b2, b3, b4⟩
    have D5 := Lib.hid (D4.out.keep b4 (by simp) (by simp))
    have hl5 := b4.keep hl4 (by simp)
    have C5 := Lib.hid (C4.out.trans b4)
    have S5 := Lib.hid (Sl.of_bk (n := 6) b1 HX.out)
    have hgo := Lib.hid (show W.heap.size < go ∧ w0.heap.size + 1 < go from by have h1 := (old hl4).lt; have h2 := (old D4.out.1.choose_spec.choose_spec).lt; omega)
    clear b2 b4 hl4 hg hW
    go_wp2_with fail
    refine (lines_same _ _ _ _ _ _ _ _ _ S5.out (HS.out.chg C5.out (by simp)) (by omega)).mono ?_
    rintro e w6 ⟨rfl, c6⟩
    have D6 := Lib.hid (D5.out.keep c6 (by simp) (by simp))
    have hl6 := c6.keep hl5 (by simp)
    have ho6 := c6.keep b1 (by simp)
    have C6 := Lib.hid (C5.out.trans c6)
    have hf := hff.out
    have rp := rowPut_bk (xs := xs) (l := [321, 0, 0, 0, 0, 0, 0, 0]) (i := k) hf ro 34 (0, 0)
    have ri := rowHas_bk (xs := xs) (i := k) hf ro 34
    have o6 := old ho6
    have g2 : (k : Int) < ((6 : Nat) : Int) := g1
    clear c6 b1 hl5 hf
    go_wp2_with fail
    have c7 : Chg [go] w6 (putRow w6 go (k * 8) (vs [321, 0, 0, 0, 0, 0, 0, 0])) := (Chg.refl _ _).putRow _ _ _ (.inl (by simp))
    generalize putRow w6 go (k * 8) (vs [321, 0, 0, 0, 0, 0, 0, 0]) = w7 at c7 ⊢
    have hg := hgo.out
    have D7 := Lib.hid (D6.out.keep c7 (by simp; omega) (by simp; omega))
    have hl7 := c7.keep hl6 (by simp; omega)
    have C7 := Lib.hid (C6.out.trans' c7 (by simp; omega))
    clear c7 hl6 ho6 o6 rp ri hg
    refine (read_ok _ _ 6 1 k xs _ D7.out (by omega)).mono ?_
    rintro e w8 ⟨rfl, c8, d8⟩
    have hW := HW.out
    have hl8' := c8.keep hl7 (by simp; omega)
    have hz := hln.out
    have D8 := Lib.hid (d8.keep ((Chg.refl [] w8).alloc (.cells (vs (ln xs k)) 34)) (by simp) (by simp))
    have C8 := Lib.hid ((C7.out.trans' c8 (by simp; omega)).alloc (.cells (vs (ln xs k)) 34))
    have hc : (w8.alloc (.cells (vs (ln xs k)) 34)).heap[w8.heap.size]? = some (.cells (vs (ln xs k)) 34 (0, 0)) := by simp
    have hl9 : (w8.alloc (.cells (vs (ln xs k)) 34)).heap[W.heap.size]? = some (.cells (vs l) 34 (0, 0)) := by simp [hl8']
    obtain ⟨cs, t, f, hb, hi, hp, hl⟩ := (HS.out.chg C8.out (by simp)).line (i := k) (by omega)
    have h8 := Lib.hid (show w0.heap.size + 1 < w8.heap.size from (old d8.1.choose_spec.choose_spec).lt)
    clear c8 d8 hl7 hW hl8'
    go_wp2_with fail
    generalize w8.alloc (.cells (vs (ln xs k)) 34) = w9 at hc hl9 D8 C8 hb
    have hb0 : b0 < W.heap.size := by
      obtain ⟨cs', t', f', hb', _⟩ := HS.out.line (i := k) (by omega)
      exact (old hb').lt
    have hWW := HW.out
    go_region_held3 (fun w' => w'.heap[w8.heap.size]? = some (.cells (vs (ln xs k)) 34 (0, 0)) ∧ w'.heap[W.heap.size]? = some (.cells (vs l) 34 (0, 0)) ∧ w'.heap[b0]? = some (.cells cs t f)) (first | exact ⟨hc, hl9, hb⟩ | exact ⟨c10.keep hc (by have := h8.out; simp; omega), c10.keep hl9 (by simp; omega), c10.keep hb (by simp; omega)⟩)
      ((go_at_call 11; refine (write_ok _ _ 6 1 k l xs _ (D8.out.keep ((Chg.refl [] w9).drew) (by simp) (by simp)) (by omega) hl8).mono ?_; rintro e w' ⟨rfl, c10, d10⟩))
    all_goals
      have D10 := Lib.hid d10
      have hl10 := c10.keep hl9 (by simp; omega)
      have C10 := Lib.hid (C8.out.drew.trans' c10 (by simp; omega))
      clear d10 c10 hl9 hc hb
      go_wp2_with fail
      refine (read_ok _ _ 6 1 k _ _ D10.out (by omega)).mono ?_
      rintro e w11 ⟨rfl, c11, d11⟩
      rw [ln_put_same xs l k hff.out hl8]
      have hl11 := c11.keep hl10 (by simp; omega)
      have D11 := Lib.hid (d11.keep ((Chg.refl [] w11).alloc (.cells (vs l) 34)) (by simp) (by simp))
      have C11 := Lib.hid ((C10.out.trans' c11 (by simp; omega)).alloc (.cells (vs l) 34))
      have o11 := old hl11
      clear c11 d11 hl10
      go_wp2_with fail
      refine (restore_bad _ _ 6 1 _ none 0 0 _ D11.out (by decide)).mono ?_
      rintro e w12 ⟨rfl, rfl⟩
      go_wp2_with (go_at_call 8; refine (wakes_true _).mono ?_; rintro e w13 ⟨rfl, c13⟩)
      go_ret
      exact ⟨rfl, C11.out.trans c13⟩
  · have t1 : (m != 6) = true := by simpa using h6
    clear h6
    go_wp2_with (go_at_call 8; refine (wakes_true _).mono ?_; rintro e w2 ⟨rfl, c2⟩)
    go_ret
    exact ⟨rfl, C1.out.trans c2⟩
end Go.Proofs.Ytdeloippchnogaa
