/- Slots compared; what all statements of the layer wake: walked. No condition. -/
import Derived.Test.YtadeoflkppiflaaDoorArrv
namespace Go.Proofs.YtadeoflkppiflaaDoor
open Go.RowKit
set_option linter.unusedVariables false
set_option maxHeartbeats 1000000
attribute [local go_sem ↓] append_appS copy_copS clear_clrS make_mkS cell_row frozen_row loadLine storeLine loadSlot storeSlot heap_drew heap_drewN heap_alloc heap_past heap_setCell heap_putRow vs_get slc_st slc_li slc_us
attribute [local go_sem] rowCell_some rowFrozen_some rowHas_some rowIn_some rowPart_full rowPart_lit rowPut_full rowPut_lit rowSet_some size_putRow vs_size vs_one wideLine wideSlot run_loadS run_storeS run_appS run_copS run_clrS run_mkS loadW_at storeW_at fit_all fit_le one_int one_bool one_pointer one_slice allOne_list putRow_new ne_size1 ne_size2 ne_size3 ne_size4 zero8_length line_eq lit8 slc_size slc_one slc_part slc_in fold_slt fold_slc slc_set_us
attribute [local simp ↓] heap_drew heap_drewN heap_alloc heap_past heap_setCell heap_putRow
attribute [local simp] rowCell_some rowFrozen_some rowHas_some rowIn_some rowPart_full rowPart_lit rowPut_full rowPut_lit rowSet_some size_putRow vs_size fit_all putRow_new ne_size1 ne_size2 ne_size3 ne_size4 zero8_length slc_size


attribute [local go_sem ↓] loadRSlot storeRSlot
attribute [local go_sem] wideRSlot
/-! ### Slots compared -/
/-- The element at hand, cell by cell. -/
theorem slt_all {w wr : World} {l : List Nat} {n b o k : Nat} {ys : List Slt} {y : Slt} (h : Sl w 11 (some ⟨b, o, none⟩) n (cat Slt.enc ys)) (hc : Chg l w wr) (hb : b ∉ l) (hk : k < n) (hy : ys[k]? = some y) :
    ∃ c t f, wr.heap[b]? = some (.cells c t f) ∧ c[o + k * 11]? = some (.int .i64 y.st) ∧ c[o + k * 11 + 1]? = some (.int .i64 y.li) ∧ c[o + k * 11 + 10]? = some (.int .i64 y.us) ∧ rowIn (some (.cells c t f)) (o + k * 11 + 2) 8 = true ∧ rowPart (some (.cells c t f)) (o + k * 11 + 2) 8 = vs y.l := by
  obtain ⟨cs, t, f, hb, hce, hpa⟩ := (h.chg hc (by simpa using hb)).elem (by omega) hk (cat_part Slt.len hy)
  obtain ⟨r1, r2⟩ := hpa 2 8 (by omega)
  have h0 := hce 0 (by omega)
  rw [Nat.add_zero] at h0
  refine ⟨cs, t, f, hb, h0.trans rfl, (hce 1 (by omega)).trans rfl, (hce 10 (by omega)).trans (enc_us y), r1, ?_⟩
  rw [r2, enc_line]; rfl
theorem same_ok (A B : Option Addr) (n c c' : Nat) (xs : List Slt) (w : World) (h1 : Sl w 11 A n (cat Slt.enc xs)) (h2 : Sl w 11 B n (cat Slt.enc xs)) (hl : n = xs.length) (hn : n ≤ 100000) :
    Calls Tryd.prog 18 #[.slice A n c, .slice B n c'] w fun e w' => e = .returned (.bool true) ∧ Chg [] w w' := by
  have H1 := Lib.hid h1
  have H2 := Lib.hid h2
  have HL := Lib.hid hl
  clear h1 h2 hl
  go_enter Tryd.func18, Tryd.ntmps18
  try dsimp only [List.append]
  have tn : ((n : Int) != (n : Int)) = false := by simp
  go_wp2
  go_loopw [5] (fun i wr => ∃ k : Nat, k ≤ n ∧ i = .int .i64 k ∧ Chg [] w wr) (fun i _ => n - (intOf i).toNat)
  case atStart => exact ⟨0, by omega, rfl, Chg.refl _ _⟩
  case round =>
    obtain ⟨k, hk, rfl, hc⟩ := hrel
    by_cases hlt : k < n
    · obtain ⟨b, o, rfl⟩ := H1.out.addr (by omega)
      obtain ⟨b', o', rfl⟩ := H2.out.addr (by omega)
      obtain ⟨y, hy⟩ : ∃ y, xs[k]? = some y := ⟨xs[k]'(by rw [← HL.out]; exact hlt), List.getElem?_eq_getElem _⟩
      obtain ⟨cs, t, f, hb, a0, a1, a2, a3, a4⟩ := slt_all H1.out hc (by simp) hlt hy
      obtain ⟨cs', t', f', hb', b0, b1, b2, b3, b4⟩ := slt_all H2.out hc (by simp) hlt hy
      have g1 : (k : Int) < (n : Int) := by omega
      have g0 : (0 : Int) ≤ (k : Int) := by omega
      have g2 : (n : Int) ≤ 100000 := by omega
      have t1 : (y.st != y.st) = false := by simp
      have t2 : (y.li != y.li) = false := by simp
      have t3 : (y.us != y.us) = false := by simp
      have he := fun W => line_eq y.l y.l y.h y.h W
      have te : (y.l == y.l) = true := by simp
      have HC := Lib.hid hc
      clear hy hc
      go_wp2
      go_quiet (fail)
      go_wp2
      go_roundw
      case rel => exact ⟨k + 1, by omega, by go_num, HC.out.drewN _⟩
      case measure => simp [intOf]; omega
    · have : k = n := by omega
      subst this
      go_wp2
      go_ret
      exact ⟨rfl, hc⟩

/-! ### An array that is all new to the world W -/
def ASys (W w : World) (a b S N : Nat) (xs : List Slt) (u : Int) : Prop := Chg [] W w ∧ Arr w a b S N xs u ∧ W.heap.size ≤ a ∧ W.heap.size ≤ b
theorem ASys.keep {W w w' : World} {a b S N : Nat} {xs : List Slt} {u : Int} (h : ASys W w a b S N xs u) (hc : Chg [] w w') : ASys W w' a b S N xs u :=
  ⟨h.1.trans hc, h.2.1.keep hc (by simp) (by simp), h.2.2⟩
theorem ASys.in2 {W w : World} {a b S N : Nat} {xs : List Slt} {u : Int} (h : ASys W w a b S N xs u) : ∀ x ∈ [a, b], x ∈ ([] : List Nat) ∨ W.heap.size ≤ x := by
  intro x hx
  have := h.2.2
  simp only [List.mem_cons, List.not_mem_nil, or_false] at hx
  rcases hx with rfl | rfl <;> omega
theorem ASys.argBlock {W w : World} {a b S N : Nat} {xs : List Slt} {u : Int} (h : ASys W w a b S N xs u) {k : Nat} (hk : k < W.heap.size) : k ∉ [a, b] := by
  have := h.2.2
  simp; omega
theorem ASys.new2 {W w : World} {a b S N : Nat} {xs : List Slt} {u : Int} (h : ASys W w a b S N xs u) {k : Nat} (hk : w.heap.size ≤ k) : k ∉ [a, b] := by
  have h1 := h.2.1.olda
  have h2 := h.2.1.oldb
  simp; omega
theorem ASys.good {W w : World} {a b S N : Nat} {xs : List Slt} {u : Int} (h : ASys W w a b S N xs u) : Good S N xs := h.2.1.2.2.2
/-- Behind a call. -/
def ASysTo (W w : World) (a b S N : Nat) (xs : List Slt) (u : Int) (v : Value) (e : Ending) (w' : World) : Prop := e = .returned v ∧ ASys W w' a b S N xs u ∧ Chg [a, b] w w'
theorem ASys.to {W w : World} {a b S N : Nat} {xs xs' : List Slt} {u u' : Int} (h : ASys W w a b S N xs u) {v : Value} {f : FuncId} {args : Array Value} (hc : Calls Tryd.prog f args w (ArrTo w a b S N xs' u' v)) : Calls Tryd.prog f args w (ASysTo W w a b S N xs' u' v) :=
  hc.mono fun e w' ⟨he, hc, ha⟩ => ⟨he, ⟨h.1.trans' hc h.in2, ha, h.2.2⟩, hc⟩
section
variable {W w : World} {a b S N : Nat} {xs : List Slt} {u : Int} (h : ASys W w a b S N xs u)
include h
theorem sys_set (u0 : 0 ≤ u) (u1 : u ≤ 1000000000) (li st : Int) (l : List Int) (hl8 : l.length = 8) : Calls Tryd.prog 38 #[.pointer (some ⟨a, 0, none⟩), .int .i64 li, .int .i64 st, .agg (vs l)] w (ASysTo W w a b S N (setXs S N xs u li st l hl8) (setU S N xs u li st) (.int .i64 (setVal S N xs li st))) :=
  h.to (asetl_any a b S N xs u li st l hl8 w h.2.1 u0 u1)
theorem sys_touch (u0 : 0 ≤ u) (u1 : u ≤ 1000000000) (li : Int) : Calls Tryd.prog 31 #[.pointer (some ⟨a, 0, none⟩), .int .i64 li] w (ASysTo W w a b S N (touchXs xs u li) (touchU xs u li) (.tuple #[])) :=
  h.to (atouch_any a b S N xs u li w h.2.1 u0 u1)
theorem sys_drop (li : Int) : Calls Tryd.prog 42 #[.pointer (some ⟨a, 0, none⟩), .int .i64 li] w (ASysTo W w a b S N (dropXs xs li) u (.bool (dropVal xs li))) :=
  h.to (adrop_any a b S N xs u li w h.2.1)
end
theorem sys_new (S N : Nat) (W w : World) (hc : Chg [] W w) (h : goodNew S N) : Calls Tryd.prog 25 #[.int .i64 S, .int .i64 N] w fun e w' => ∃ a b, e = .returned (.tuple #[.pointer (some ⟨a, 0, none⟩), .int .i64 0]) ∧ ASys W w' a b S N (List.replicate (S * N) sltZ) 0 ∧ Chg [] w w' :=
  (anew_ok S N w h).mono fun e w' ⟨a, b, he, h1, h2, h3, h4⟩ => ⟨a, b, he, ⟨hc.trans h3, h4, by have := hc.size; omega, by have := hc.size; omega⟩, h3⟩
/-! ### What all wake -/
def wkXs : List Slt := [⟨1, 3, [5, 0, 0, 0, 0, 0, 0, 0], 1, rfl⟩]
theorem wk1 : setXs 1 1 (List.replicate (1 * 1) sltZ) 0 3 1 [5, 0, 0, 0, 0, 0, 0, 0] rfl = wkXs ∧ setU 1 1 (List.replicate (1 * 1) sltZ) 0 3 1 = 1 ∧ setVal 1 1 (List.replicate (1 * 1) sltZ) 3 1 = 0 := ⟨rfl, rfl, rfl⟩
theorem wk2 : setXs 1 1 wkXs 1 4 2 [0, 0, 0, 0, 0, 0, 0, 0] rfl = wkXs ∧ setU 1 1 wkXs 1 4 2 = 1 ∧ setVal 1 1 wkXs 4 2 = 13 := ⟨rfl, rfl, rfl⟩
theorem wk3 : roomFree 1 1 wkXs 4 = false ∧ roomVic 1 1 wkXs 4 = 3 := ⟨rfl, rfl⟩
theorem wk4 : findVal wkXs 3 = ⟨1, 3, [5, 0, 0, 0, 0, 0, 0, 0], 1, rfl⟩ ∧ dropVal wkXs 3 = true ∧ (live wkXs).length = 1 := ⟨rfl, rfl, rfl⟩
theorem wk5 : dropVal (dropXs wkXs 3) 3 = false := rfl
theorem slc_w0 (s : Slt) : (slc s)[2]? = some (.int .u64 (s.l.getD 0 0)) := by
  have h8 : s.l.length = 8 := s.h
  unfold slc Slt.enc
  rw [List.getElem?_toArray, List.getElem?_cons_succ, List.getElem?_cons_succ, List.getElem?_append_left (by simp [h8]), List.getElem?_map]
  cases h : s.l with
  | nil => rw [h] at h8; simp at h8
  | cons x xs => simp
attribute [local go_sem ↓] slc_w0
end Go.Proofs.YtadeoflkppiflaaDoor
