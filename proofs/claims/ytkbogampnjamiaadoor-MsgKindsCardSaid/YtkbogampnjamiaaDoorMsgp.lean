/- A queue of messages: taken out, cleared, told: walked. No condition. -/
import Derived.Test.YtkbogampnjamiaaDoorMsgq
import Derived.Lib.SliceRun
namespace Go.Proofs.YtkbogampnjamiaaDoor
open Go.RowKit
set_option linter.unusedVariables false
set_option maxHeartbeats 1000000
attribute [local go_sem ↓] append_appS copy_copS clear_clrS make_mkS slice_slS cell_row frozen_row loadLine storeLine loadMsg storeMsg loadHas storeHas heap_drew heap_drewN heap_alloc heap_past heap_setCell heap_putRow vs_get msc_kd msc_li msc_di msc_ke
attribute [local go_sem] rowCell_some rowFrozen_some rowHas_some rowIn_some rowPart_full rowPart_lit rowPut_full rowPut_lit rowSet_some size_putRow vs_size vs_one wideLine wideMsg wideHas run_loadS run_storeS run_appS run_copS run_clrS run_mkS run_slS loadW_at storeW_at fit_all fit_le one_int one_bool one_pointer one_slice allOne_list putRow_new ne_size1 ne_size2 ne_size3 ne_size4 zero8_length line_eq lit8 msc_size msc_one msc_part msc_in fold_msc
attribute [local simp ↓] heap_drew heap_drewN heap_alloc heap_past heap_setCell heap_putRow
attribute [local simp] rowCell_some rowFrozen_some rowHas_some rowIn_some rowPart_full rowPart_lit rowPut_full rowPut_lit rowSet_some size_putRow vs_size fit_all putRow_new ne_size1 ne_size2 ne_size3 ne_size4 zero8_length msc_size

attribute [local go_sem ↓] mlitZ
attribute [local simp] mlitZ
theorem mpop_nil (w : World) : Calls Tryd.prog 18 #[.pointer none] w fun e w' => e = .returned (.tuple #[.agg (msc msZ), .bool false]) ∧ Chg [] w w' := by
  have r0 : (w.alloc (.cells (msc msZ) 26)).heap[w.heap.size]? = some (.cells (msc msZ) 26 (0, 0)) := by simp
  have C0 := Lib.hid ((Chg.refl [] w).alloc (.cells (msc msZ) 26))
  go_enter Tryd.func18, Tryd.ntmps18
  go_wp2_with fail
  generalize w.alloc (.cells (msc msZ) 26) = w1 at r0 C0 ⊢
  refine (mhead_nil w1).mono ?_
  rintro e w2 ⟨rfl, c2⟩
  have r2 := c2.keep r0 (by simp)
  have o2 := old r2
  have C2 := Lib.hid (C0.out.trans c2)
  clear r0 C0 c2
  go_wp2_with fail
  refine bodyPost_ret (v := .tuple #[.agg (msc msZ), .bool false]) ?_ (by rfl) ?_
  · exact results_msg2 (by rfl) _ _ w.heap.size msZ (0, 0) (by rfl) (by simp [*]) _ (by rfl)
  · exact ⟨rfl, (C2.out.alloc _).putRow _ _ _ (.inr (by simp))⟩
theorem mpop_ok {W w : World} {q be : Nat} {xs : List Ms} (h : Qu W w q be xs) : Calls Tryd.prog 18 #[.pointer (some ⟨q, 0, none⟩)] w (QuTo W w q be xs.tail (.tuple #[.agg (msc (headM xs)), .bool (someB xs)])) := by
  have H := Lib.hid h
  clear h
  have r0 : (w.alloc (.cells (msc msZ) 26)).heap[w.heap.size]? = some (.cells (msc msZ) 26 (0, 0)) := by simp
  have C0 := Lib.hid ((Chg.refl [] w).alloc (.cells (msc msZ) 26))
  go_enter Tryd.func18, Tryd.ntmps18
  go_wp2_with fail
  generalize w.alloc (.cells (msc msZ) 26) = w1 at r0 C0 ⊢
  refine (mhead_ok (H.out.stay C0.out)).mono ?_
  rintro e w2 ⟨rfl, c2⟩
  have r2 := c2.keep r0 (by simp)
  have o2 := old r2
  have C2 := Lib.hid (C0.out.trans c2)
  clear r0 C0 c2
  cases xs with
  | nil =>
    rw [headM_nil, show someB ([] : List Ms) = false from rfl]
    go_wp2_with fail
    refine bodyPost_ret (v := .tuple #[.agg (msc msZ), .bool false]) ?_ (by rfl) ?_
    · exact results_msg2 (by rfl) _ _ w.heap.size msZ (0, 0) (by rfl) (by simp [*]) _ (by rfl)
    · have C9 := (C2.out.alloc (.cells (msc msZ) 26)).putRow w.heap.size 0 (msc msZ) (.inr (by simp))
      exact ⟨rfl, be, H.out.stay C9, C9.mono (by simp), .inl rfl⟩
  | cons x xs =>
    rw [headM_cons, show someB (x :: xs) = true from rfl]
    have H2 := H.out.stay C2.out
    obtain ⟨a1, a2, a3, a4, a5, A, cap, h6, h7⟩ := H2
    have hsl := slR_tail (P := Tryd.prog) eltMsg A xs.length cap (by have := h7.le; simpa using this)
    have HT := Lib.hid (h7.tail Ms.len)
    have hne := (h7.first Ms.len).1
    have HN := Lib.hid hne
    have oq := old h6
    have hqr : w.heap.size ≠ q := by have := H.out.oldq.lt; omega
    have hqr' : q ≠ w.heap.size := fun e => hqr e.symm
    have A1 := Lib.hid a1
    have A5 := Lib.hid a5
    clear h7 a1 a5 hne
    go_wp2_with fail
    refine bodyPost_ret (v := .tuple #[.agg (msc x), .bool true]) ?_ (by rfl) ?_
    · exact results_msg2 (by rfl) _ _ w.heap.size x (0, 0) (by rfl) (by simp [*]) _ (by rfl)
    · have C9 := (((Chg.refl [q] w2).alloc (.cells (msc x) 26)).setCell q 0 (.slice (behind 12 A cap) xs.length (cap - 1)) (.inl (by simp))).mono (l' := [q, w.heap.size]) (by simp)
      have C9 := C9.putRow w.heap.size 0 (msc x) (.inl (by simp))
      have hq9 : (putRow ((w2.alloc (.cells (msc x) 26)).setCell ⟨q, 0, none⟩ (.slice (behind 12 A cap) xs.length (cap - 1))) w.heap.size 0 (msc x)).heap[q]? = some (.cells #[.slice (behind 12 A cap) xs.length (cap - 1)] 34 (0, 0)) := by simp [*]
      have hbs := H.out.olde.lt
      have hbw : be ≠ w.heap.size := by omega
      refine ⟨rfl, be, ⟨A1.out.trans' C9 ?_, a2, a3, a4, by have := A5.out; simp at this; simp; omega, _, _, hq9, HT.out.keep C9 (by simp; exact ⟨HN.out, hbw⟩)⟩, ?_, .inl rfl⟩
      · intro y hy
        have := H.out.1.size
        simp only [List.mem_cons, List.not_mem_nil, or_false] at hy
        rcases hy with rfl | rfl
        · exact .inr a3
        · exact .inr this
      · exact (C2.out.mono (l' := [q, be]) (by simp)).trans' C9 (by simp)
theorem mclear_nil (w : World) : Calls Tryd.prog 20 #[.pointer none] w fun e w' => e = .returned (.tuple #[]) ∧ w = w' := by
  go_enter Tryd.func20, Tryd.ntmps20
  go_wp2
  refine bodyPost_ret (results_none rfl _ _ _) rfl ?_
  exact ⟨rfl, rfl⟩
theorem mclear_ok {W w : World} {q be : Nat} {xs : List Ms} (h : Qu W w q be xs) : Calls Tryd.prog 20 #[.pointer (some ⟨q, 0, none⟩)] w fun e w' => e = .returned (.tuple #[]) ∧ Qu W w' q q [] ∧ Chg [q, be] w w' := by
  obtain ⟨a1, a2, a3, a4, a5, A, cap, h6, h7⟩ := h
  have A1 := Lib.hid a1
  have oq := old h6
  clear a1 h7 a5
  go_enter Tryd.func20, Tryd.ntmps20
  go_wp2
  go_end0
  refine ⟨rfl, ⟨A1.out.setCell _ _ _ (.inr a3), a2, a3, a3, by simp, none, 0, by simp [*], Vof.nil _ _ _ _ _⟩, (Chg.refl _ _).setCell _ _ _ (.inl (by simp))⟩
theorem mall_nil (w : World) : Calls Tryd.prog 23 #[.pointer none] w fun e w' => e = .returned (.slice none 0 0) ∧ w = w' := by
  go_enter Tryd.func23, Tryd.ntmps23
  go_wp2
  go_ret
  exact ⟨rfl, rfl⟩
theorem sclone_ok (A : Option Addr) (n c : Nat) (xs : List Ms) (w : World) (h : Sl w 12 A n (cat Ms.enc xs)) (hn : xs.length = n) (hn2 : n ≤ 100000) :
    Calls Tryd.prog 25 #[.slice A n c] w fun e w' => ∃ A' c', e = .returned (.slice A' n c') ∧ Sl w' 12 A' n (cat Ms.enc xs) ∧ Chg [] w w' := by
  have hq := fun w A => Lib.run_eql_slice_nil (P := Tryd.prog) w 32 26 A n c 0 0 Tryd.underlying32
  cases A with
  | none =>
    have h0 : n = 0 := by
      rcases h.2 with h0 | ⟨b, o, c, t, f, he, _⟩
      · exact h0
      · cases he
    have HS := Lib.hid h
    have H0 := Lib.hid h0
    clear h h0
    go_enter Tryd.func25, Tryd.ntmps25
    go_wp2
    go_ret
    refine ⟨none, 0, by rw [H0.out]; rfl, HS.out, Chg.refl _ _⟩
  | some a =>
    obtain ⟨A', c', w2, happ, hs2, hc2⟩ := clone_elts (ty := 32) eltMsg (w.alloc (.cells #[] 26)) ⟨w.heap.size, 0, none⟩ (some a) n c xs (h.chg ((Chg.refl [] w).alloc _) (by simp)) hn (by omega) (by unfold maxLen; omega)
    have HS2 := Lib.hid hs2
    have HC2 := Lib.hid (((Chg.refl [] w).alloc (.cells #[] 26)).trans hc2)
    clear h hs2 hc2 hn
    go_enter Tryd.func25, Tryd.ntmps25
    go_wp2
    go_ret
    exact ⟨A', c', rfl, HS2.out, HC2.out⟩
theorem mall_ok {W w : World} {q be : Nat} {xs : List Ms} (h : Qu W w q be xs) : Calls Tryd.prog 23 #[.pointer (some ⟨q, 0, none⟩)] w fun e w' => ∃ A c, e = .returned (.slice A xs.length c) ∧ Sl w' 12 A xs.length (cat Ms.enc xs) ∧ Chg [] w w' := by
  obtain ⟨_, _, _, _, a5, A, cap, h6, h7⟩ := h
  have HS := Lib.hid (h7.sl Ms.len)
  clear h7
  go_enter Tryd.func23, Tryd.ntmps23
  go_wp2_with (go_at_call 25; refine (sclone_ok A xs.length cap xs w HS.out rfl (by omega)).mono ?_; rintro e w' ⟨A', c', rfl, hs, hc⟩)
  go_ret
  exact ⟨A', c', rfl, hs, hc⟩
end Go.Proofs.YtkbogampnjamiaaDoor
