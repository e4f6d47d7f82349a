/- The steps of MsgQueues; what it has beside the queue. No condition. -/
import Derived.Test.YtkbogampnjamiaaDoorMsgx
import Derived.Test.YtkbogampnjamiaaDoorArgs
namespace Go.Proofs.YtkbogampnjamiaaDoor
open Go.RowKit
set_option linter.unusedVariables false
set_option maxHeartbeats 1000000
attribute [local go_sem ↓] append_appS copy_copS clear_clrS make_mkS slice_slS cell_row frozen_row loadLine storeLine loadMsg storeMsg loadHas storeHas heap_drew heap_drewN heap_alloc heap_past heap_setCell heap_putRow vs_get msc_kd msc_li msc_di msc_ke
attribute [local go_sem] rowCell_some rowFrozen_some rowHas_some rowIn_some rowPart_full rowPart_lit rowPut_full rowPut_lit rowSet_some size_putRow vs_size vs_one wideLine wideMsg wideHas run_loadS run_storeS run_appS run_copS run_clrS run_mkS run_slS loadW_at storeW_at fit_all fit_le one_int one_bool one_pointer one_slice allOne_list putRow_new ne_size1 ne_size2 ne_size3 ne_size4 zero8_length line_eq lit8 msc_size msc_one msc_part msc_in fold_msc
attribute [local simp ↓] heap_drew heap_drewN heap_alloc heap_past heap_setCell heap_putRow
attribute [local simp] rowCell_some rowFrozen_some rowHas_some rowIn_some rowPart_full rowPart_lit rowPut_full rowPut_lit rowSet_some size_putRow vs_size fit_all putRow_new ne_size1 ne_size2 ne_size3 ne_size4 zero8_length msc_size

theorem wideQS : Wide Tryd.prog 36 13 := ⟨⟨_, Tryd.underlying36, by rfl⟩, by kernel_rfl⟩
theorem loadQS (x : Value) : Instr.loadAt 36 x = loadS 36 13 x := rfl
theorem storeQS (x y : Value) : Instr.storeAt 36 x y = storeS 36 13 x y := rfl
/-- A step. -/
structure QStp where
  kd : Int
  m : Ms
def qsc (s : QStp) : Array Value := (.int .i64 s.kd :: Ms.enc s.m).toArray
theorem qsc_size (s : QStp) : (qsc s).size = 13 := by simp [qsc, Ms.len]
theorem qsc_one (s : QStp) : allOne (qsc s) := allOne_list _ (by
  rw [List.all_cons, Bool.and_eq_true]
  exact ⟨rfl, List.all_eq_true.2 (Ms.one s.m)⟩)
theorem qsc_kd (s : QStp) : (qsc s)[0]? = some (.int .i64 s.kd) := by simp [qsc]
theorem qsc_m (s : QStp) (t : TypeId) (f : Nat × Nat) : rowPart (some (.cells (qsc s) t f)) 1 12 = msc s.m := by
  rw [rowPart_some]
  simp [qsc, msc, Ms.len, List.take_of_length_le]
theorem qsc_min (s : QStp) (t : TypeId) (f : Nat × Nat) : rowIn (some (.cells (qsc s) t f)) 1 12 = true := by
  rw [rowIn_some, qsc_size]; exact decide_eq_true (show 1 + 12 ≤ 13 by omega)
def kMsg : List Kd := .int .i64 :: .int .i64 :: .bool :: .bool :: kLine
def kQStep : List Kd := .int .i64 :: kMsg
theorem msg_cells {w : World} {cs : List Value} (h : AreKd w kMsg cs) : ∃ m : Ms, cs = Ms.enc m := by
  obtain ⟨v0, c0, rfl, h0, hA⟩ := AreKd.head h
  obtain ⟨v1, c1, rfl, h1, hB⟩ := AreKd.head hA
  obtain ⟨v2, c2, rfl, h2, hC⟩ := AreKd.head hB
  obtain ⟨v3, c3, rfl, h3, hD⟩ := AreKd.head hC
  simp only [IsKd] at h0 h1 h2 h3
  obtain ⟨kd, rfl, _⟩ := h0
  obtain ⟨li, rfl, _⟩ := h1
  obtain ⟨di, rfl⟩ := h2
  obtain ⟨ke, rfl⟩ := h3
  obtain ⟨ns, hl, rfl, _⟩ := AreKd.ints (m := 8) hD
  exact ⟨⟨kd, li, di, ke, ns, hl⟩, rfl⟩
theorem qstep_cells {w : World} {cs : List Value} (h : AreKd w kQStep cs) : ∃ x : QStp, cs = .int .i64 x.kd :: Ms.enc x.m := by
  obtain ⟨v0, c0, rfl, h0, hA⟩ := AreKd.head h
  rw [IsKd] at h0
  obtain ⟨kd, rfl, _⟩ := h0
  obtain ⟨m, rfl⟩ := msg_cells hA
  exact ⟨⟨kd, m⟩, rfl⟩
theorem qstep_row {w : World} {o b n : Nat} {xs : List Value} (hA : Sl w 13 (some ⟨b, o, none⟩) n xs) {i : Nat} (hi : i < n) (hk : AreKd w kQStep ((xs.drop (i * 13)).take 13)) :
    ∃ (x : QStp) (c : Array Value) (t : TypeId) (f : Nat × Nat), w.heap[b]? = some (.cells c t f) ∧ rowIn (some (.cells c t f)) (o + i * 13) 13 = true ∧ rowPart (some (.cells c t f)) (o + i * 13) 13 = qsc x := by
  obtain ⟨x, hy⟩ := qstep_cells hk
  obtain ⟨cs, t, f, hb, _, hp⟩ := hA.elem (by omega) hi hy
  have h0 := hp 0 13 (by omega)
  rw [Nat.add_zero] at h0
  refine ⟨x, cs, t, f, hb, h0.1, ?_⟩
  rw [h0.2]
  simp [qsc, Ms.len, List.take_of_length_le]

/-- What the statement has beside the queue: a slice of its own block bh, apart from the queue's blocks q and be. -/
def Hv (W w : World) (q be bh : Nat) (A : Option Addr) (cap : Nat) (xs : List Ms) : Prop :=
  Vof 12 26 Ms.enc w 0 bh A cap xs ∧ bh ≠ q ∧ bh ≠ be ∧ (bh = 0 ∨ W.heap.size ≤ bh) ∧ Old w bh
theorem Hv.stay {W w w' : World} {q be bh : Nat} {A : Option Addr} {cap : Nat} {xs : List Ms} {l : List Nat} (h : Hv W w q be bh A cap xs) (hc : Chg l w w') (hl : bh ∉ l) : Hv W w' q be bh A cap xs :=
  ⟨h.1.keep hc hl, h.2.1, h.2.2.1, h.2.2.2.1, h.2.2.2.2.chg hc⟩
/-- Behind a call that changes the queue. -/
theorem Hv.call {W w w' : World} {q be be' bh : Nat} {A : Option Addr} {cap : Nat} {xs : List Ms} (h : Hv W w q be bh A cap xs) (hc : Chg [q, be] w w') (hb : be' = be ∨ w.heap.size ≤ be') : Hv W w' q be' bh A cap xs := by
  refine ⟨h.1.keep hc (by simp; exact ⟨h.2.1, h.2.2.1⟩), h.2.1, ?_, h.2.2.2.1, h.2.2.2.2.chg hc⟩
  have h1 := h.2.2.1
  have h2 := h.2.2.2.2.lt
  omega
theorem Hv.nil {W w : World} {q be : Nat} (ht : Tab W) (hc : Chg [] W w) (hq : W.heap.size ≤ q) (hb : W.heap.size ≤ be) : Hv W w q be 0 none 0 [] := by
  have h0 := ht.old.lt
  exact ⟨Vof.nil _ _ _ _ _, by omega, by omega, .inl rfl, ht.old.chg hc⟩
theorem Hv.sl {W w : World} {q be bh : Nat} {A : Option Addr} {cap : Nat} {xs : List Ms} (h : Hv W w q be bh A cap xs) : Sl w 12 A xs.length (cat Ms.enc xs) := h.1.sl Ms.len
theorem Hv.tail {W w : World} {q be bh : Nat} {A : Option Addr} {cap : Nat} {x : Ms} {xs : List Ms} (h : Hv W w q be bh A cap (x :: xs)) : Hv W w q be bh (behind 12 A cap) (cap - 1) xs := ⟨h.1.tail Ms.len, h.2⟩
theorem msg_slice1 (w : World) (m : Ms) : Sl (w.alloc (.cells (msc m) 26)) 12 (some ⟨w.heap.size, 0, none⟩) 1 (cat Ms.enc [m]) :=
  ⟨by rw [cat_length Ms.len]; rfl, .inr ⟨w.heap.size, 0, msc m, 26, (0, 0), rfl, by simp, by rw [cat_one]; simp [msc, Ms.len, List.take_of_length_le]⟩⟩
/-- One more. -/
theorem Hv.app {W w : World} {q be bh : Nat} {A : Option Addr} {cap : Nat} {xs xs' : List Ms} (h : Hv W w q be bh A cap xs) (hQ : Qu W w q be xs') (ht : Tab W) (hW : Chg [] W w) (m : Ms) (hx : xs.length ≤ 100000) :
    ∃ (bh' cap' : Nat) (A' : Option Addr) (w' : World), appR Tryd.prog 32 32 #[.slice A xs.length cap, .slice (some ⟨w.heap.size, 0, none⟩) 1 1] (w.alloc (.cells (msc m) 26)) = .ok (.slice A' (xs.length + 1) cap') w' ∧ Hv W w' q be bh' A' cap' (xs ++ [m]) ∧ Qu W w' q be xs' := by
  have ca := (Chg.refl [] w).alloc (.cells (msc m) 26)
  have h0 := ht.old.lt
  obtain ⟨be', cap', A', w3, happ, hv2, hbe, hc2, hqq⟩ := (h.1.keep ca (by simp)).app (ty := 32) eltMsg ((ht.old.chg hW).chg ca) (msg_slice1 w m) (c := 1) rfl (by omega) (by unfold maxLen; omega)
  have hb := h.2.1
  have hb2 := h.2.2.1
  have hb3 := h.2.2.2.1
  have hold := h.2.2.2.2.lt
  have hsz : (w.alloc (.cells (msc m) 26)).heap.size = w.heap.size + 1 := by simp
  have hqo := hQ.oldq.lt
  have hqe := hQ.olde.lt
  have hws := hW.size
  rw [hsz] at hbe
  have h9 : be' ≠ q ∧ be' ≠ be ∧ (be' = 0 ∨ W.heap.size ≤ be') := by omega
  refine ⟨be', cap', A', w3, happ, ⟨hv2, h9.1, h9.2.1, h9.2.2, ?_⟩, ?_⟩
  · obtain ⟨y, l, hl⟩ : ∃ y l, xs ++ [m] = y :: l := by cases xs <;> simp
    obtain ⟨_, o, C, _, hb4, _⟩ := (hl ▸ hv2).first Ms.len
    exact old hb4
  · have hQ' := hQ.stay ca
    by_cases hz : bh = 0
    · have hc3 : Chg [] (w.alloc (.cells (msc m) 26)) w3 := by
        subst hz
        exact hc2.less hqq
      exact hQ'.stay hc3
    · exact hQ'.keep hc2 (by simp; omega) (by simp; omega) (by simp; omega)
end Go.Proofs.YtkbogampnjamiaaDoor
