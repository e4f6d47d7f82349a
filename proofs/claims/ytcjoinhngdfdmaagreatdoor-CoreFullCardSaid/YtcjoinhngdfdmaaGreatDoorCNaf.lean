/- Texts of the walk, one behind the other: Quz Wpq Wpqc Wpqw Wpqg Aga Agb Agc Agd Age. No condition. -/
import Derived.Test.YtcjoinhngdfdmaaGreatDoorCNaa
import Derived.Test.YtcjoinhngdfdmaaGreatDoorCNab
import Derived.Test.YtcjoinhngdfdmaaGreatDoorCNad
import Derived.Test.YtcjoinhngdfdmaaGreatDoorCNae
import Derived.BigQuiet
import Derived.Deep.Cut
import Derived.Deep.CutBlock
import Derived.Deep.CutRange
import Derived.Deep.DeepCutAuto
import Derived.Deep.QuietTactic
import Derived.Deep.RegionHeld3
import Derived.Deep.RegionWith
import Derived.IntWalk
section
namespace Go.Proofs.YtcjoinhngdfdmaaGreatDoor
open Go.RowKit
set_option linter.unusedVariables false
set_option maxHeartbeats 1000000
set_option maxRecDepth 100000
attribute [local go_sem ↓] append_appS copy_copS clear_clrS make_mkS cell_row frozen_row loadLine storeLine loadSlot storeSlot heap_drew heap_drewN heap_alloc heap_past heap_setCell heap_putRow vs_get slc_st slc_li slc_us slice_slS loadMsg storeMsg loadHas storeHas msc_kd msc_li msc_di msc_ke
attribute [local go_sem] rowCell_some rowFrozen_some rowHas_some rowIn_some rowPart_full rowPart_lit rowPut_full rowPut_lit rowSet_some size_putRow vs_size vs_one wideLine wideSlot run_loadS run_storeS run_appS run_copS run_clrS run_mkS loadW_at storeW_at fit_all fit_le one_int one_bool one_pointer one_slice allOne_list putRow_new ne_size1 ne_size2 ne_size3 ne_size4 zero8_length lines_nil line_eq lit8 slc_size slc_one slc_part slc_in fold_slt fold_slc slc_set_us wideMsg wideHas run_slS msc_size msc_one msc_part msc_in fold_msc msc_putDi msc_putKe msc_putX msc_has ms4_lit
attribute [local simp ↓] heap_drew heap_drewN heap_alloc heap_past heap_setCell heap_putRow
attribute [local simp] rowCell_some rowFrozen_some rowHas_some rowIn_some rowPart_full rowPart_lit rowPut_full rowPut_lit rowSet_some size_putRow vs_size fit_all putRow_new ne_size1 ne_size2 ne_size3 ne_size4 zero8_length slc_size msc_size msc_putDi msc_putKe msc_putX msc_has fit_le


attribute [local go_sem ↓] mlitZ
attribute [local simp] mlitZ
theorem ms_whole {w wr : World} {l : List Nat} {n b o k : Nat} {ys : List Ms} {y : Ms} (h : Sl w 12 (some ⟨b, o, none⟩) n (cat Ms.enc ys)) (hc : Chg l w wr) (hb : b ∉ l) (hk : k < n) (hy : ys[k]? = some y) :
    ∃ c t f, wr.heap[b]? = some (.cells c t f) ∧ rowIn (some (.cells c t f)) (o + k * 12) 12 = true ∧ rowPart (some (.cells c t f)) (o + k * 12) 12 = msc y := by
  obtain ⟨cs, t, f, hb, _, hpa⟩ := (h.chg hc (by simpa using hb)).elem (by omega) hk (cat_part Ms.len hy)
  obtain ⟨r1, r2⟩ := hpa 0 12 (by omega)
  rw [Nat.add_zero] at r1 r2
  refine ⟨cs, t, f, hb, r1, ?_⟩
  rw [r2]
  simp [msc, Ms.len, List.take_of_length_le]
theorem set_other {C : Array Value} {o k : Nat} {v x : Value} (h : C[k]? = some x) (hk : o ≠ k) : (C.setIfInBounds o v)[k]? = some x := by
  rw [Array.getElem?_setIfInBounds_ne hk]; exact h
theorem set_this {C : Array Value} {o : Nat} {v x : Value} (h : C[o]? = some x) : (C.setIfInBounds o v)[o]? = some v := by
  have := (Array.getElem?_eq_some_iff.1 h).1
  simp [this]
theorem set_twice {C : Array Value} {o : Nat} {v x : Value} : (C.setIfInBounds o v).setIfInBounds o x = C.setIfInBounds o x := by
  apply Array.ext_getElem?
  intro i
  simp only [Array.getElem?_setIfInBounds, Array.size_setIfInBounds]
  split
  · rfl
  · rfl
/-- Messages among a call's arguments, apart from the queue. -/
theorem zsend_ok (T : TypeId) (C : Array Value) (q o be : Nat) (A : Option Addr) (cap : Nat) (xs : List Ms) (B : Option Addr) (n nc : Nat) (ms : List Ms) (w : World) (hq : w.heap[q]? = some (.cells C T (0, 0))) (hC : C[o]? = some (.slice A xs.length cap)) (hB : C[o + 1]? = some (.slice none 0 0)) (hl : xs.length + n ≤ 1000) (hV : Vof 12 50 Ms.enc w q be A cap xs) (hT : Tab w) (h0 : 1 ∉ [q, be]) (hn : n = ms.length) (hS : Sl w 12 B n (cat Ms.enc ms)) (hA : ∀ a, B = some a → a.block ∉ [q, be]) (hm : ∀ m ∈ ms, mg m = true) :
    Calls Tryz.prog 61 #[.pointer (some ⟨q, o, none⟩), .slice B n nc] w (QueTo T C q o be w (xs ++ ms) (.tuple #[])) := by
  have oq := old hq
  have OB := Lib.hid (hV.old oq)
  have OQ := Lib.hid oq
  have HL := Lib.hid hl
  have HT := Lib.hid hT
  have HS := Lib.hid hS
  have HA := Lib.hid hA
  have HM := Lib.hid hm
  have HN := Lib.hid hn
  have HB := Lib.hid hB
  have HC := Lib.hid hC
  have HQ := Lib.hid hq
  have HV := Lib.hid hV
  have N0 := Lib.hid h0
  have gn : (n : Int) ≤ 1000 := by omega
  clear hl hT hS hA hm hn hB hC hq hV oq h0
  go_enter Tryz.func61, Tryz.ntmps61
  try dsimp only [List.append]
  go_wp2_with fail
  go_loopw [8] (fun i wr => ∃ (j : Nat) (be' : Nat) (A' : Option Addr) (cap' : Nat), j ≤ n ∧ i = .int .i64 j ∧ wr.heap[q]? = some (.cells (C.setIfInBounds o (.slice A' (xs.length + j) cap')) T (0, 0)) ∧ Vof 12 50 Ms.enc wr q be' A' cap' (xs ++ ms.take j) ∧ Chg [q, be] w wr ∧ (be' = be ∨ w.heap.size ≤ be')) (fun i _ => n - (intOf i).toNat)
  case atStart =>
    refine ⟨0, be, A, cap, by omega, rfl, ?_, by simpa using HV.out, Chg.refl _ _, .inl rfl⟩
    rw [Nat.add_zero, setSame HC.out]
    exact HQ.out
  case round =>
    obtain ⟨j, be', A', cap', hj, rfl, hq, hV, hc, hb⟩ := hrel
    by_cases hlt : j < n
    · have g1 : (j : Int) < (n : Int) := by omega
      have g0 : (0 : Int) ≤ (j : Int) := by omega
      obtain ⟨b1, o1, rfl⟩ := HS.out.addr (by omega)
      obtain ⟨m, hy⟩ : ∃ m, ms[j]? = some m := ⟨ms[j]'(by rw [← HN.out]; exact hlt), List.getElem?_eq_getElem _⟩
      obtain ⟨c1, t1, f1, hb1, i1, p1⟩ := ms_whole HS.out hc (HA.out _ rfl) hlt hy
      have hx : xs ++ ms.take (j + 1) = (xs ++ ms.take j) ++ [m] := by
        rw [List.take_succ_eq_append_getElem (by rw [← HN.out]; exact hlt : j < ms.length), List.append_assoc, show ms[j]'(by rw [← HN.out]; exact hlt) = m from (List.getElem?_eq_some_iff.1 hy).2]
      have hlx : (xs ++ ms.take j).length = xs.length + j := by rw [List.length_append, List.length_take, ← HN.out, Nat.min_eq_left hj]
      have hmm := HM.out m (List.mem_of_getElem? hy)
      have ob' : be' < wr.heap.size := (hV.old (old hq)).lt
      have hpush := fun w1 (c : Chg [] wr w1) => qpush_ok T (C.setIfInBounds o (.slice A' (xs.length + j) cap')) q o be' A' cap' (xs ++ ms.take j) m w1 (c.keep hq (by simp)) (by rw [hlx]; exact set_this HC.out) (by rw [hlx]; have := HL.out; omega) (hV.keep c (by simp)) ((HT.out.keep hc N0.out).keep c (by simp)) hmm
      have HP := Lib.hid hpush
      have HX := Lib.hid hx
      have HCW := Lib.hid hc
      have HBB := Lib.hid hb
      have HHX := Lib.hid hlx
      have NX := Lib.hid (show wr.heap.size ∉ [q, be'] by have h1 := (old hq).lt; simp; omega)
      clear hy hpush hx hmm hc hb hlx
      have r0 : (wr.alloc (.cells (msc m) 50)).heap[wr.heap.size]? = some (.cells (msc m) 50 (0, 0)) := by simp
      have C0 := Lib.hid ((Chg.refl [] wr).alloc (.cells (msc m) 50))
      go_wp2_with fail
      generalize wr.alloc (.cells (msc m) 50) = w1 at r0 C0 ⊢
      go_region_held3 (fun w' => w'.heap[wr.heap.size]? = some (.cells (msc m) 50 (0, 0))) (first | exact c2.keep r0 NX.out | exact r0)
        (first | (go_at_call 101; refine (HP.out _ C0.out.drew).mono ?_; rintro e w' ⟨rfl, be2, A2, cap2, h1, h2, c2, h3⟩))
      have HR := Lib.hid h1
      clear r0 h1
      go_wp2_with fail
      go_roundw
      case rel =>
        have h1 := HR.out
        rw [set_twice, List.length_append, HHX.out] at h1
        have c3 := (C0.out.drew.mono (l' := [q, be']) (by simp)).trans c2
        have hq0 := OQ.out.lt
        have hsz := HCW.out.size
        refine ⟨j + 1, be2, A2, cap2, by omega, by go_num, h1, by rw [HX.out]; exact h2, ?_, ?_⟩
        · refine HCW.out.trans' c3 ?_
          intro y hy
          simp only [List.mem_cons, List.not_mem_nil, or_false] at hy
          rcases hy with rfl | rfl
          · simp
          · rcases HBB.out with h | h
            · left; rw [h]; simp
            · exact .inr h
        · have := C0.out.size
          have h4 := HBB.out
          have h5 : w1.drew.heap.size = w1.heap.size := rfl
          omega
      case measure => simp [intOf]; omega
    · obtain rfl : j = n := by omega
      have HQ9 := Lib.hid hq
      have HV9 := Lib.hid hV
      have HC9 := Lib.hid hc
      clear hq hV hc
      go_wp2_with fail
      refine bodyPost_ret (results_none rfl _ _ _) rfl ?_
      have e1 : ms.take j = ms := by rw [HN.out, List.take_length]
      refine ⟨rfl, be', A', cap', ?_, ?_, HC9.out, hb⟩
      · rw [List.length_append, ← HN.out]; exact HQ9.out
      · have := HV9.out
        rw [e1] at this
        exact this

section
variable {P : Program} {t ty e : TypeId} {k bytes : Nat} {z : Value} {α : Type} {enc : α → List Value}
end
end Go.Proofs.YtcjoinhngdfdmaaGreatDoor
end
section
namespace Go.Proofs.YtcjoinhngdfdmaaGreatDoor
open Go.RowKit
set_option linter.unusedVariables false
theorem wideEnt : Wide Tryz.prog 243 9 := ⟨⟨_, Tryz.underlying243, by rfl⟩, by kernel_rfl⟩
theorem loadEnt (x : Value) : Instr.loadAt 243 x = loadS 243 9 x := rfl
theorem storeEnt (x y : Value) : Instr.storeAt 243 x y = storeS 243 9 x y := rfl
attribute [local go_sem ↓] append_appS copy_copS clear_clrS make_mkS cell_row frozen_row loadLine storeLine loadEnt storeEnt heap_drew heap_drewN heap_alloc heap_past heap_setCell heap_putRow vs_get entc_pos
attribute [local go_sem] rowCell_some rowFrozen_some rowHas_some rowIn_some rowPart_full rowPart_lit rowPut_full rowPut_lit rowSet_some size_putRow vs_size vs_one wideLine wideEnt run_loadS run_storeS run_appS run_copS run_clrS run_mkS loadW_at storeW_at fit_all fit_le one_int one_bool one_pointer one_slice allOne_list putRow_new ne_size1 ne_size2 ne_size3 ne_size4 zero8_length lines_nil line_eq lit8 entc_size entc_one entc_part entc_in entc_made fold_ent fold_entc
attribute [local simp ↓] heap_drew heap_drewN heap_alloc heap_past heap_setCell heap_putRow
attribute [local simp] rowCell_some rowFrozen_some rowHas_some rowIn_some rowPart_full rowPart_lit rowPut_full rowPut_lit rowSet_some size_putRow vs_size fit_all putRow_new ne_size1 ne_size2 ne_size3 ne_size4 zero8_length entc_size

/-- The queue at q, ahead of the device at g that has n lines, has room for so many entries; these are in it, in block be. -/
def Que (w : World) (q be g n room : Nat) (es : List Ent) : Prop :=
  (∃ A cap, w.heap[q]? = some (.cells #[.pointer (some ⟨g, 0, none⟩), .int .i64 n, .int .i64 room, .slice A es.length cap] 150 (0, 0)) ∧ Vec 9 243 Ent.enc w q be A cap es) ∧
    es.length ≤ room ∧ 1 ≤ room ∧ room ≤ 16 ∧ 2 ≤ n ∧ n ≤ 64 ∧ Lie n es
theorem Que.keep {w w' : World} {q be g n room : Nat} {es : List Ent} {l : List Nat} (h : Que w q be g n room es) (hc : Chg l w w') (hq : q ∉ l) (hb : be ∉ l) : Que w' q be g n room es := by
  obtain ⟨⟨A, cap, h1, h2⟩, h3⟩ := h
  exact ⟨⟨A, cap, hc.keep h1 hq, h2.keep hc hb⟩, h3⟩
theorem Que.oldq {w : World} {q be g n room : Nat} {es : List Ent} (h : Que w q be g n room es) : Old w q := by
  obtain ⟨⟨A, cap, h1, h2⟩, h3⟩ := h
  exact old h1
theorem Que.olde {w : World} {q be g n room : Nat} {es : List Ent} (h : Que w q be g n room es) : Old w be := by
  obtain ⟨⟨A, cap, h1, h2⟩, h3⟩ := h
  exact h2.old (old h1)

/-! ### Made -/
/-- A queue that was made. -/
def MadeQue (w0 : World) (g n room : Nat) (e : Ending) (w' : World) : Prop :=
  ∃ q, e = .returned (.tuple #[.pointer (some ⟨q, 0, none⟩), .int .i64 0]) ∧ w0.heap.size ≤ q ∧ Chg [] w0 w' ∧ Que w' q q g n room []
theorem qnew_ok (g b n v room : Nat) (xs : List Int) (w : World) (hd : Dev w g b n v xs) (h1 : 1 ≤ room) (h2 : room ≤ 16) : Calls Tryz.prog 35 #[.pointer (some ⟨g, 0, none⟩), .int .i64 room] w (MadeQue w g n room) := by
  have HD := Lib.hid hd
  have t1 : decide ((room : Int) < 1) = false := by simp; omega
  have t2 : decide ((16 : Int) < room) = false := by simp; omega
  clear hd
  go_enter Tryz.func35, Tryz.ntmps35
  go_wp2_with fail
  refine (image_ok g b n v xs _ HD.out).mono ?_
  rintro e w' ⟨g', cap, r', rfl, a1, a2, a3, a4⟩
  clear a1
  go_wp2_with fail
  go_ret2
  refine ⟨w'.heap.size, rfl, a4.size, a4.alloc _, ⟨none, 0, by simp, Vec.nil _ _ _ _ _⟩, by simp, h1, h2, HD.out.2.2.2.1, HD.out.2.2.2.2.1, Lie.nil n⟩

/-! ### Put in -/
end Go.Proofs.YtcjoinhngdfdmaaGreatDoor
end
section
namespace Go.Proofs.YtcjoinhngdfdmaaGreatDoor
open Go.RowKit
set_option linter.unusedVariables false
set_option maxRecDepth 100000
attribute [local go_sem ↓] append_appS copy_copS clear_clrS make_mkS cell_row frozen_row loadLine storeLine loadEnt storeEnt heap_drew heap_drewN heap_alloc heap_past heap_setCell heap_putRow vs_get entc_pos
attribute [local go_sem] rowCell_some rowFrozen_some rowHas_some rowIn_some rowPart_full rowPart_lit rowPut_full rowPut_lit rowSet_some size_putRow vs_size vs_one wideLine wideEnt run_loadS run_storeS run_appS run_copS run_clrS run_mkS loadW_at storeW_at fit_all fit_le one_int one_bool one_pointer one_slice allOne_list putRow_new ne_size1 ne_size2 ne_size3 ne_size4 zero8_length lines_nil line_eq lit8 entc_size entc_one entc_part entc_in entc_made fold_ent fold_entc
attribute [local simp ↓] heap_drew heap_drewN heap_alloc heap_past heap_setCell heap_putRow
attribute [local simp] rowCell_some rowFrozen_some rowHas_some rowIn_some rowPart_full rowPart_lit rowPut_full rowPut_lit rowSet_some size_putRow vs_size fit_all putRow_new ne_size1 ne_size2 ne_size3 ne_size4 zero8_length entc_size


/-! ### Drained -/
/-- The blocks of a queue are others than its device's. -/
def Apart (q be g b : Nat) : Prop := q ≠ g ∧ q ≠ b ∧ be ≠ g ∧ be ≠ b
/-! ### The power fails -/
end Go.Proofs.YtcjoinhngdfdmaaGreatDoor
end
section
namespace Go.Proofs.YtcjoinhngdfdmaaGreatDoor
open Go.RowKit
set_option linter.unusedVariables false
set_option maxRecDepth 100000
attribute [local go_sem ↓] append_appS copy_copS clear_clrS make_mkS cell_row frozen_row loadLine storeLine loadEnt storeEnt heap_drew heap_drewN heap_alloc heap_past heap_setCell heap_putRow vs_get entc_pos
attribute [local go_sem] rowCell_some rowFrozen_some rowHas_some rowIn_some rowPart_full rowPart_lit rowPut_full rowPut_lit rowSet_some size_putRow vs_size vs_one wideLine wideEnt run_loadS run_storeS run_appS run_copS run_clrS run_mkS loadW_at storeW_at fit_all fit_le one_int one_bool one_pointer one_slice allOne_list putRow_new ne_size1 ne_size2 ne_size3 ne_size4 zero8_length lines_nil line_eq lit8 entc_size entc_one entc_part entc_in entc_made fold_ent fold_entc fold_vs
attribute [local simp ↓] heap_drew heap_drewN heap_alloc heap_past heap_setCell heap_putRow
attribute [local simp] rowCell_some rowFrozen_some rowHas_some rowIn_some rowPart_full rowPart_lit rowPut_full rowPut_lit rowSet_some size_putRow vs_size fit_all putRow_new ne_size1 ne_size2 ne_size3 ne_size4 zero8_length entc_size


/-! ### A queue with its device -/
/-- All of it is new to the world W; nothing else has changed since. -/
def Sys (W w : World) (q be g b n v room : Nat) (es : List Ent) (xs : List Int) : Prop :=
  Chg [] W w ∧ Que w q be g n room es ∧ Dev w g b n v xs ∧ Apart q be g b ∧ W.heap.size ≤ q ∧ W.heap.size ≤ be ∧ W.heap.size ≤ g ∧ W.heap.size ≤ b
theorem Sys.keep {W w w' : World} {q be g b n v room : Nat} {es : List Ent} {xs : List Int} (h : Sys W w q be g b n v room es xs) (hc : Chg [] w w') : Sys W w' q be g b n v room es xs :=
  ⟨h.1.trans hc, h.2.1.keep hc (by simp) (by simp), h.2.2.1.keep hc (by simp) (by simp), h.2.2.2⟩
theorem Dev.oldg {w : World} {g b n v : Nat} {xs : List Int} (h : Dev w g b n v xs) : g < w.heap.size := (old h.1.choose_spec.choose_spec).lt
theorem Dev.oldb {w : World} {g b n v : Nat} {xs : List Int} (h : Dev w g b n v xs) : b < w.heap.size := (old h.2.1).lt
section
variable {W w : World} {q be g b n v room : Nat} {es : List Ent} {xs : List Int} (h : Sys W w q be g b n v room es xs)
include h
theorem Sys.len : es.length ≤ room := h.2.1.2.1
theorem Sys.lie : Lie n es := h.2.1.2.2.2.2.2.2
theorem Sys.size : xs.length = n * 8 := h.2.2.1.2.2.1
theorem Sys.n2 : 2 ≤ n := h.2.1.2.2.2.2.1
theorem Sys.v1 : 1 ≤ v := h.2.2.1.2.2.2.2.2.1
theorem Sys.over : (over xs es).length = n * 8 := over_length es xs h.size h.lie
end
theorem wsys_new (W : World) (n v room : Nat) (w : World) (g b : Nat) (xs : List Int) (hc : Chg [] W w) (hd : Dev w g b n v xs) (hg : W.heap.size ≤ g) (hb : W.heap.size ≤ b) (h1 : 1 ≤ room) (h2 : room ≤ 16) :
    Calls Tryz.prog 35 #[.pointer (some ⟨g, 0, none⟩), .int .i64 room] w fun e w' => ∃ q, e = .returned (.tuple #[.pointer (some ⟨q, 0, none⟩), .int .i64 0]) ∧ Sys W w' q q g b n v room [] xs ∧ Chg [] w w' ∧ w.heap.size ≤ q :=
  (qnew_ok g b n v room xs w hd h1 h2).mono fun e w' ⟨q, he, hq, hc', hqq⟩ => by
    have h3 := hd.oldg
    have h4 := hd.oldb
    have h5 := hc.size
    exact ⟨q, he, ⟨hc.trans hc', hqq, hd.keep hc' (by simp) (by simp), ⟨by omega, by omega, by omega, by omega⟩, by omega, by omega, hg, hb⟩, hc', hq⟩
end Go.Proofs.YtcjoinhngdfdmaaGreatDoor
end
section
namespace Go.Proofs.YtcjoinhngdfdmaaGreatDoor
open Go.RowKit
set_option linter.unusedVariables false
set_option maxRecDepth 100000
attribute [local go_sem ↓] append_appS copy_copS clear_clrS make_mkS cell_row frozen_row loadLine storeLine loadEnt storeEnt heap_drew heap_drewN heap_alloc heap_past heap_setCell heap_putRow vs_get entc_pos
attribute [local go_sem] rowCell_some rowFrozen_some rowHas_some rowIn_some rowPart_full rowPart_lit rowPut_full rowPut_lit rowSet_some size_putRow vs_size vs_one wideLine wideEnt run_loadS run_storeS run_appS run_copS run_clrS run_mkS loadW_at storeW_at fit_all fit_le one_int one_bool one_pointer one_slice allOne_list putRow_new ne_size1 ne_size2 ne_size3 ne_size4 zero8_length lines_nil line_eq lit8 entc_size entc_one entc_part entc_in entc_made fold_ent fold_entc fold_vs vs_set
attribute [local simp ↓] heap_drew heap_drewN heap_alloc heap_past heap_setCell heap_putRow
attribute [local simp] rowCell_some rowFrozen_some rowHas_some rowIn_some rowPart_full rowPart_lit rowPut_full rowPut_lit rowSet_some size_putRow vs_size fit_all putRow_new ne_size1 ne_size2 ne_size3 ne_size4 zero8_length entc_size


/-! ### What the calls answer, and leave -/
def wpushVal (n room : Nat) (es : List Ent) (li : Int) : Int := if 0 ≤ li ∧ li < n then (if room ≤ es.length then 13 else 0) else 12
def pushEs (n room : Nat) (es : List Ent) (li : Int) (l : List Int) (h : l.length = 8) : List Ent := if 0 ≤ li ∧ li < n then (if room ≤ es.length then es else es ++ [⟨li.toNat, l, h⟩]) else es
/-- The place of the first entry of a line, or behind them all. -/
def firstAt (es : List Ent) (li : Int) : Nat := es.findIdx (fun e => (e.pos : Int) == li)
def drainVal (es : List Ent) (li : Int) : Int := if firstAt es li < es.length then 0 else 14
def drainEs (es : List Ent) (li : Int) : List Ent := es.eraseIdx (firstAt es li)
def drainXs (xs : List Int) (es : List Ent) (li : Int) : List Int := match es[firstAt es li]? with | some e => lnPut xs e.pos e.l | none => xs
theorem first_some {es : List Ent} {li : Int} (h : firstAt es li < es.length) : ∃ e, es[firstAt es li]? = some e ∧ (e.pos : Int) = li ∧ ∀ x ∈ es.take (firstAt es li), (x.pos : Int) ≠ li := by
  refine ⟨es[firstAt es li], List.getElem?_eq_getElem h, ?_, ?_⟩
  · have := List.findIdx_getElem (p := fun e : Ent => (e.pos : Int) == li) (xs := es) (w := h)
    simp only [beq_iff_eq] at this
    exact this
  · intro x hx
    obtain ⟨i, hi, rfl⟩ := List.getElem_of_mem hx
    rw [List.getElem_take]
    have h1 : i < es.findIdx (fun e : Ent => (e.pos : Int) == li) := by rw [List.length_take] at hi; unfold firstAt at hi; omega
    have := List.not_of_lt_findIdx h1
    simpa using this
/-! ### The one -/
section
variable {W w : World} {q be g b n v room : Nat} {es : List Ent} {xs : List Int} (h : Sys W w q be g b n v room es xs)
include h
end

/-! ### The other one -/
section
end

/-! ### Both -/
section
end

/-! ### A step's cells -/
end Go.Proofs.YtcjoinhngdfdmaaGreatDoor
end
section
namespace Go.Proofs.YtcjoinhngdfdmaaGreatDoor
open Go.RowKit
set_option linter.unusedVariables false
set_option maxHeartbeats 1000000
attribute [local go_sem ↓] append_appS copy_copS clear_clrS make_mkS cell_row frozen_row loadLine storeLine loadSlot storeSlot heap_drew heap_drewN heap_alloc heap_past heap_setCell heap_putRow vs_get slc_st slc_li slc_us slice_slS loadMsg storeMsg loadHas storeHas msc_kd msc_li msc_di msc_ke
attribute [local go_sem] rowCell_some rowFrozen_some rowHas_some rowIn_some rowPart_full rowPart_lit rowPut_full rowPut_lit rowSet_some size_putRow vs_size vs_one wideLine wideSlot run_loadS run_storeS run_appS run_copS run_clrS run_mkS loadW_at storeW_at fit_all fit_le one_int one_bool one_pointer one_slice allOne_list putRow_new ne_size1 ne_size2 ne_size3 ne_size4 zero8_length lines_nil line_eq lit8 slc_size slc_one slc_part slc_in fold_slt fold_slc slc_set_us wideMsg wideHas run_slS msc_size msc_one msc_part msc_in fold_msc msc_putDi msc_putKe msc_putX msc_has ms4_lit ms4_k ms4_l ms4_e
attribute [local simp ↓] heap_drew heap_drewN heap_alloc heap_past heap_setCell heap_putRow
attribute [local simp] rowCell_some rowFrozen_some rowHas_some rowIn_some rowPart_full rowPart_lit rowPut_full rowPut_lit rowSet_some size_putRow vs_size fit_all putRow_new ne_size1 ne_size2 ne_size3 ne_size4 zero8_length slc_size msc_size msc_putDi msc_putKe msc_putX msc_has fit_le ms4_k ms4_l ms4_e

/-- A new block behind others, all of which is replaced. -/
theorem aputRow_newB (w : World) (o : Obj) (c cs : Array Value) (t : TypeId) (h : cs.size = c.size) : putRow ((w.alloc o).alloc (.cells c t)) (w.heap.size + 1) 0 cs = (w.alloc o).alloc (.cells cs t) := by
  have := putRow_new (w.alloc o) c cs t h
  rwa [show (w.alloc o).heap.size = w.heap.size + 1 by simp] at this
theorem aputRow_newC (w : World) (o o' : Obj) (c cs : Array Value) (t : TypeId) (h : cs.size = c.size) : putRow (((w.alloc o).alloc o').alloc (.cells c t)) (w.heap.size + 2) 0 cs = ((w.alloc o).alloc o').alloc (.cells cs t) := by
  have := aputRow_newB (w.alloc o) o' c cs t h
  rwa [show (w.alloc o).heap.size = w.heap.size + 1 by simp] at this
theorem asize11 (n : Nat) : n + 1 + 1 = n + 2 := rfl
attribute [local go_sem] aputRow_newB aputRow_newC asize11
attribute [local simp] aputRow_newB aputRow_newC
theorem gwrite_any (st : Int) (w : World) : Calls Tryz.prog 179 #[.int .i64 st] w fun e w' => e = .returned (.bool (mayWr st)) ∧ w = w' := by
  cases t1 : (st == 2)
  all_goals
    go_enter Tryz.func179, Tryz.ntmps179
    try dsimp only [List.append]
    go_wp2_with fail
    go_ret
    exact ⟨by simp [mayWr, t1], rfl⟩
theorem rest_or (st : Int) : atRest st = (st == 1 || mayWr st) := by
  unfold atRest mayWr
  rw [Bool.eq_iff_iff]
  simp
  omega
theorem grest_any (st : Int) (w : World) : Calls Tryz.prog 200 #[.int .i64 st] w fun e w' => e = .returned (.bool (atRest st)) ∧ w = w' := by
  cases t1 : (st == 1)
  all_goals
    go_enter Tryz.func200, Tryz.ntmps200
    try dsimp only [List.append]
    go_wp2_with (go_at_call 179; refine (gwrite_any _ _).mono ?_; rintro e w' ⟨rfl, rfl⟩)
    go_ret
    exact ⟨by simp [rest_or, mayWr, t1], rfl⟩
theorem grest_at (st : Int) (b : Bool) (h : atRest st = b) (w : World) : Calls Tryz.prog 200 #[.int .i64 st] w fun e w' => e = .returned (.bool b) ∧ w = w' := h ▸ grest_any st w
theorem gwrite_at (st : Int) (b : Bool) (h : mayWr st = b) (w : World) : Calls Tryz.prog 179 #[.int .i64 st] w fun e w' => e = .returned (.bool b) ∧ w = w' := h ▸ gwrite_any st w
theorem gread_any (st : Int) (w : World) : Calls Tryz.prog 191 #[.int .i64 st] w fun e w' => e = .returned (.bool (mayR st)) ∧ w = w' := by
  cases t1 : atRest st
  all_goals
    go_enter Tryz.func191, Tryz.ntmps191
    try dsimp only [List.append]
    go_wp2_with (go_at_call 200; refine (grest_at _ _ t1 _).mono ?_; rintro e w' ⟨rfl, rfl⟩)
    go_ret
    exact ⟨by simp [mayR, t1], rfl⟩
theorem gline_any (li : Int) (w : World) : Calls Tryz.prog 177 #[.int .i64 li] w fun e w' => e = .returned (.bool (isLn li)) ∧ w = w' := by
  cases t1 : decide (0 ≤ li)
  all_goals
    go_enter Tryz.func177, Tryz.ntmps177
    try dsimp only [List.append]
    go_wp2_with fail
    go_ret
    exact ⟨by simp [isLn, t1], rfl⟩
theorem gword_any (li : Int) (w : World) : Calls Tryz.prog 178 #[.int .i64 li] w fun e w' => e = .returned (.bool (isWd li)) ∧ w = w' := by
  cases t1 : decide (0 ≤ li)
  all_goals
    go_enter Tryz.func178, Tryz.ntmps178
    try dsimp only [List.append]
    go_wp2_with fail
    go_ret
    exact ⟨by simp [isWd, t1], rfl⟩
theorem gread_at (st : Int) (b : Bool) (h : mayR st = b) (w : World) : Calls Tryz.prog 191 #[.int .i64 st] w fun e w' => e = .returned (.bool b) ∧ w = w' := h ▸ gread_any st w
theorem gline_at (li : Int) (b : Bool) (h : isLn li = b) (w : World) : Calls Tryz.prog 177 #[.int .i64 li] w fun e w' => e = .returned (.bool b) ∧ w = w' := h ▸ gline_any li w
theorem gword_at (li : Int) (b : Bool) (h : isWd li = b) (w : World) : Calls Tryz.prog 178 #[.int .i64 li] w fun e w' => e = .returned (.bool b) ∧ w = w' := h ▸ gword_any li w
/-! ### Messages, words, that lie in a cell -/
theorem results_ms1 {fn : Func} {p : Tmp} (h : fn.results = #[.cell p 50]) (tmps : Array Value) (w : World) (b : Nat) (x : Ms) (fr : Nat × Nat)
    (hp : tmps.getD p undef = .pointer (some ⟨b, 0, none⟩)) (hb : w.heap[b]? = some (.cells (msc x) 50 fr)) :
    (results fn tmps).run Tryz.prog w = .ok (.agg (msc x)) w := by
  have hp' : tmps[p]?.getD undef = .pointer (some ⟨b, 0, none⟩) := by simpa using hp
  have := run_loadVar_row (P := Tryz.prog) w b 50 50 (msc x) fr _ hb Tryz.underlying50 rfl (by rw [msc_size]; kernel_rfl)
  simp [results, h, hp', asAddr, this]
set_option maxRecDepth 20000 in
theorem gtold_any (kd : Int) (x : Slt) (w : World) : Calls Tryz.prog 158 #[.int .i64 kd, .agg (slc x)] w fun e w' => e = .returned (.agg (msc (toldM kd x false))) ∧ Chg [] w w' := by
  have hx8 := x.h
  have q : (x.st == 3) = true ∨ ((x.st == 3) = false ∧ (x.st == 9) = true) ∨ ((x.st == 3) = false ∧ (x.st == 9) = false) := by
    cases (x.st == 3) <;> cases (x.st == 9) <;> simp
  have yes : x.st = 3 ∨ x.st = 9 → toldM kd x false = ((ms4 kd x.li false false).putDi true).putL x.l x.h := by intro h; unfold toldM; rw [if_pos h]; rfl
  have no : (x.st == 3) = false → (x.st == 9) = false → toldM kd x false = ms4 kd x.li false false := by
    intro h1 h2
    unfold toldM
    rw [if_neg (by simp at h1 h2; omega)]
  rcases q with q1 | ⟨q1, q2⟩ | ⟨q1, q2⟩
  · rw [yes (.inl (by simpa using q1))]
    clear yes no
    go_enter Tryz.func158, Tryz.ntmps158
    try dsimp only [List.append]
    go_wp2_with fail
    go_region
    all_goals
      go_wp2_with fail
      refine bodyPost_ret (results_ms1 (by rfl) _ _ (w.heap.size + 1) _ (0, 0) (by rfl) (by simp (maxDischargeDepth := 8) [hx8]; try rfl)) (by rfl) ?_
      exact ⟨rfl, by (repeat' (first | with_reducible exact Chg.refl _ _ | with_reducible assumption | with_reducible refine Chg.drew ?_ | with_reducible refine Chg.drewN ?_ _ | with_reducible refine Chg.alloc ?_ _ | with_reducible refine Chg.putRow ?_ _ _ _ (.inr ?_) | with_reducible refine Chg.setCell ?_ _ _ _ (.inr ?_)  | (show _ ≤ _; first | exact Nat.le_refl _ | omega | (simp; done))))⟩
  · rw [yes (.inr (by simpa using q2))]
    clear yes no
    go_enter Tryz.func158, Tryz.ntmps158
    try dsimp only [List.append]
    go_wp2_with fail
    go_region
    all_goals
      go_wp2_with fail
      refine bodyPost_ret (results_ms1 (by rfl) _ _ (w.heap.size + 1) _ (0, 0) (by rfl) (by simp (maxDischargeDepth := 8) [hx8]; try rfl)) (by rfl) ?_
      exact ⟨rfl, by (repeat' (first | with_reducible exact Chg.refl _ _ | with_reducible assumption | with_reducible refine Chg.drew ?_ | with_reducible refine Chg.drewN ?_ _ | with_reducible refine Chg.alloc ?_ _ | with_reducible refine Chg.putRow ?_ _ _ _ (.inr ?_) | with_reducible refine Chg.setCell ?_ _ _ _ (.inr ?_)  | (show _ ≤ _; first | exact Nat.le_refl _ | omega | (simp; done))))⟩
  · rw [no q1 q2]
    clear yes no
    go_enter Tryz.func158, Tryz.ntmps158
    try dsimp only [List.append]
    go_wp2_with fail
    all_goals
      go_wp2_with fail
      refine bodyPost_ret (results_ms1 (by rfl) _ _ (w.heap.size + 1) _ (0, 0) (by rfl) (by simp; try rfl)) (by rfl) ?_
      exact ⟨rfl, by (repeat' (first | with_reducible exact Chg.refl _ _ | with_reducible assumption | with_reducible refine Chg.drew ?_ | with_reducible refine Chg.drewN ?_ _ | with_reducible refine Chg.alloc ?_ _ | with_reducible refine Chg.putRow ?_ _ _ _ (.inr ?_) | with_reducible refine Chg.setCell ?_ _ _ _ (.inr ?_)  | (show _ ≤ _; first | exact Nat.le_refl _ | omega | (simp; done))))⟩

/-- What is told, in memory of its own. -/
def Told (w w' : World) (A : Option Addr) (ms : List Ms) : Prop := Sl w' 12 A ms.length (cat Ms.enc ms) ∧ ∀ x, A = some x → w.heap.size ≤ x.block
theorem Told.nil (w w' : World) : Told w w' none [] := ⟨⟨rfl, .inl rfl⟩, by simp⟩
theorem Told.keep {w w' w'' : World} {A : Option Addr} {ms : List Ms} {l : List Nat} (h : Told w w' A ms) (hc : Chg l w' w'') (hl : ∀ x ∈ l, x < w.heap.size) : Told w w'' A ms :=
  ⟨h.1.chg hc (by intro a ha hm; have := h.2 a ha; have := hl _ hm; omega), h.2⟩
theorem Told.from {w0 w w' : World} {A : Option Addr} {ms : List Ms} (h : Told w w' A ms) (hs : w0.heap.size ≤ w.heap.size) : Told w0 w' A ms := ⟨h.1, fun x hx => Nat.le_trans hs (h.2 x hx)⟩
theorem Told.one (w : World) (m : Ms) : Told w (w.alloc (.cells (msc m) 50)) (some ⟨w.heap.size, 0, none⟩) [m] :=
  ⟨⟨by rw [cat_length Ms.len], .inr ⟨w.heap.size, 0, msc m, 50, (0, 0), rfl, by simp, by rw [cat_one]; simp [msc, Ms.len, List.take_of_length_le]⟩⟩, by rintro x hx; cases hx; exact Nat.le_refl _⟩
def MsTo (w : World) (ms : List Ms) : Ending → World → Prop := fun e w' => ∃ A n, e = .returned (.slice A ms.length n) ∧ Told w w' A ms ∧ Chg [] w w'
theorem MsTo.nil {w w' : World} (h : Chg [] w w') : MsTo w [] (.returned (.slice none 0 0)) w' := ⟨none, 0, rfl, Told.nil _ _, h⟩
theorem MsTo.one {w w1 : World} (h : Chg [] w w1) (m : Ms) : MsTo w [m] (.returned (.slice (some ⟨w1.heap.size, 0, none⟩) 1 1)) (w1.alloc (.cells (msc m) 50)) :=
  ⟨_, 1, rfl, (Told.one w1 m).from h.size, h.alloc _⟩
theorem MsTo.at {w w1 : World} {n : Nat} (h : Chg [] w w1) (m : Ms) (hn : n = w1.heap.size) : MsTo w [m] (.returned (.slice (some ⟨n, 0, none⟩) 1 1)) (w1.alloc (.cells (msc m) 50)) := hn ▸ MsTo.one h m
end Go.Proofs.YtcjoinhngdfdmaaGreatDoor
end
section
namespace Go.Proofs.YtcjoinhngdfdmaaGreatDoor
open Go.RowKit
set_option linter.unusedVariables false
set_option maxHeartbeats 1000000
attribute [local go_sem ↓] append_appS copy_copS clear_clrS make_mkS cell_row frozen_row loadLine storeLine loadSlot storeSlot heap_drew heap_drewN heap_alloc heap_past heap_setCell heap_putRow vs_get slc_st slc_li slc_us slice_slS loadMsg storeMsg loadHas storeHas msc_kd msc_li msc_di msc_ke
attribute [local go_sem] rowCell_some rowFrozen_some rowHas_some rowIn_some rowPart_full rowPart_lit rowPut_full rowPut_lit rowSet_some size_putRow vs_size vs_one wideLine wideSlot run_loadS run_storeS run_appS run_copS run_clrS run_mkS loadW_at storeW_at fit_all fit_le one_int one_bool one_pointer one_slice allOne_list putRow_new ne_size1 ne_size2 ne_size3 ne_size4 zero8_length lines_nil line_eq lit8 slc_size slc_one slc_part slc_in fold_slt fold_slc slc_set_us wideMsg wideHas run_slS msc_size msc_one msc_part msc_in fold_msc msc_putDi msc_putKe msc_putX msc_has ms4_lit ms4_k ms4_l ms4_e
attribute [local simp ↓] heap_drew heap_drewN heap_alloc heap_past heap_setCell heap_putRow
attribute [local simp] rowCell_some rowFrozen_some rowHas_some rowIn_some rowPart_full rowPart_lit rowPut_full rowPut_lit rowSet_some size_putRow vs_size fit_all putRow_new ne_size1 ne_size2 ne_size3 ne_size4 zero8_length slc_size msc_size msc_putDi msc_putKe msc_putX msc_has fit_le ms4_k ms4_l ms4_e


/-! ### An agent whose memory is all new to the world W -/
def Agt (W w : World) (g a b S N : Nat) (s : Sta) : Prop :=
  ASys W w a b S N s.1 s.2 ∧ w.heap[g]? = some (.cells #[.pointer (some ⟨a, 0, none⟩)] 209 (0, 0)) ∧ W.heap.size ≤ g ∧ g ∉ [a, b] ∧ Sane s.1 ∧ 0 ≤ s.2
section
variable {W w w' : World} {g a b S N : Nat} {s s' : Sta} (h : Agt W w g a b S N s)
include h
theorem Agt.keep (hc : Chg [] w w') : Agt W w' g a b S N s := ⟨h.1.keep hc, hc.keep h.2.1 (by simp), h.2.2⟩
theorem Agt.arr : Arr w a b S N s.1 s.2 := h.1.2.1
theorem Agt.good : Good S N s.1 := h.1.good
theorem Agt.sane : Sane s.1 := h.2.2.2.2.1
theorem Agt.pos : 0 ≤ s.2 := h.2.2.2.2.2
theorem Agt.new3 {k : Nat} (hk : w.heap.size ≤ k) : k ∉ [g, a, b] := by
  have h1 := h.1.new2 hk
  have h2 := lt_heap h.2.1
  simp at h1 ⊢
  omega
theorem Agt.new2 {k : Nat} (hk : w.heap.size ≤ k) : k ∉ [a, b] := h.1.new2 hk
theorem Agt.apart {k : Nat} (hc : Chg [k] w w') (hk : k ∉ [g, a, b]) (hw : W.heap.size ≤ k) : Agt W w' g a b S N s := by
  have h1 : g ∉ [k] ∧ a ∉ [k] ∧ b ∉ [k] := by simp at hk ⊢; omega
  exact ⟨⟨h.1.1.trans' hc (by simp [hw]), h.1.2.1.keep hc h1.2.1 h1.2.2, h.1.2.2⟩, hc.keep h.2.1 h1.1, h.2.2⟩
theorem Agt.old2 : ∀ x ∈ [a, b], x < w.heap.size := by
  have h1 := lt_heap h.arr.1
  have h2 := lt_heap h.arr.2.1
  intro x hx
  simp at hx
  rcases hx with rfl | rfl <;> assumption
theorem Agt.step (hs : ASys W w' a b S N s'.1 s'.2) (hc : Chg [a, b] w w') (h1 : Sane s'.1) (h2 : 0 ≤ s'.2) : Agt W w' g a b S N s' :=
  ⟨hs, hc.keep h.2.1 h.2.2.2.1, h.2.2.1, h.2.2.2.1, h1, h2⟩
end
/-- Behind a call that tells messages among its values. -/
def AgRet (W w : World) (g a b S N : Nat) (s : Sta) (f : Value → Value) (ms : List Ms) : Ending → World → Prop := fun e w' =>
  ∃ A n, e = .returned (f (.slice A ms.length n)) ∧ Told w w' A ms ∧ Agt W w' g a b S N s ∧ Chg [a, b] w w'
/-- Behind a call of the array's. -/
theorem Agt.calls {W w : World} {g a b S N : Nat} {s s' : Sta} (h : Agt W w g a b S N s) {v : Value} {f : FuncId} {args : Array Value} (h1 : Sane s'.1) (h2 : 0 ≤ s'.2)
    (hc : Calls Tryz.prog f args w (ASysTo W w a b S N s'.1 s'.2 v)) : Calls Tryz.prog f args w fun e w' => e = .returned v ∧ Agt W w' g a b S N s' ∧ Chg [a, b] w w' :=
  hc.mono fun e w' ⟨he, hs, hc⟩ => ⟨he, h.step hs hc h1 h2, hc⟩
section
variable {W w : World} {g a b S N : Nat} {s : Sta} (h : Agt W w g a b S N s)
include h
theorem gset_any (hu : s.2 ≤ 1000000000) (li st : Int) (l : List Int) (hl : l.length = 8) : Calls Tryz.prog 106 #[.pointer (some ⟨a, 0, none⟩), .int .i64 li, .int .i64 st, .agg (vs l)] w
    fun e w' => e = .returned (.int .i64 (setVal S N s.1 li st)) ∧ Agt W w' g a b S N (setS S N s li st l hl) ∧ Chg [a, b] w w' :=
  h.calls (h.sane.set li st l hl) (Int.le_trans h.pos setS_u.1) (sys_set h.1 h.pos hu li st l hl)
theorem gsetz_any (hu : s.2 ≤ 1000000000) (li st : Int) : Calls Tryz.prog 106 #[.pointer (some ⟨a, 0, none⟩), .int .i64 li, .int .i64 st, .agg #[.int .u64 0, .int .u64 0, .int .u64 0, .int .u64 0, .int .u64 0, .int .u64 0, .int .u64 0, .int .u64 0]] w
    fun e w' => e = .returned (.int .i64 (setVal S N s.1 li st)) ∧ Agt W w' g a b S N (setS S N s li st zl8 rfl) ∧ Chg [a, b] w w' := gset_any h hu li st zl8 rfl
theorem gtouch_any (hu : s.2 ≤ 1000000000) (li : Int) : Calls Tryz.prog 192 #[.pointer (some ⟨a, 0, none⟩), .int .i64 li] w
    fun e w' => e = .returned (.tuple #[]) ∧ Agt W w' g a b S N (touchS s li) ∧ Chg [a, b] w w' :=
  h.calls (h.sane.touch li) (Int.le_trans h.pos touchS_u.1) (sys_touch h.1 h.pos hu li)
theorem gfind_any (li : Int) : Calls Tryz.prog 104 #[.pointer (some ⟨a, 0, none⟩), .int .i64 li] w
    fun e w' => e = .returned (.tuple #[.agg (slc (findVal s.1 li)), .bool (dropVal s.1 li)]) ∧ Chg [] w w' := afind_any a b S N s.1 s.2 li w h.arr
theorem groom_any (li : Int) : Calls Tryz.prog 202 #[.pointer (some ⟨a, 0, none⟩), .int .i64 li] w
    fun e w' => e = .returned (.tuple #[.bool (roomFree S N s.1 li), .int .i64 (roomVic S N s.1 li)]) ∧ Chg [] w w' := aroom_any a b S N s.1 s.2 li w h.arr
end
theorem gslots_any {W : World} {g a b S N : Nat} {s : Sta}  (w : World) (h : Agt W w g a b S N s) : Calls Tryz.prog 201 #[.pointer (some ⟨g, 0, none⟩)] w (SlotsTold w (live s.1)) := by
  have H := Lib.hid h
  have rG := h.2.1
  clear h
  go_enter Tryz.func201, Tryz.ntmps201
  try dsimp only [List.append]
  go_wp2_with fail
  refine (aslots_ok a b S N s.1 s.2 w H.out.arr).mono ?_
  rintro e w2 ⟨A, c, rfl, hs, c2⟩
  have HS := Lib.hid hs
  have HC := Lib.hid c2
  clear hs c2
  go_wp2_with fail
  go_ret
  exact ⟨A, c, rfl, HS.out, HC.out⟩
theorem gowns_any {W : World} {g a b S N : Nat} {s : Sta} (li : Int) (w : World) (h : Agt W w g a b S N s) : Calls Tryz.prog 175 #[.pointer (some ⟨g, 0, none⟩), .int .i64 li] w fun e w' => e = .returned (.bool (ownsB s.1 li)) ∧ Chg [] w w' := by
  have H := Lib.hid h
  have rG := h.2.1
  clear h
  go_enter Tryz.func175, Tryz.ntmps175
  try dsimp only [List.append]
  go_wp2_with fail
  refine (gfind_any H.out li).mono ?_
  rintro e w2 ⟨rfl, c2⟩
  go_wp2_with (go_at_call 179; refine (gwrite_any _ _).mono ?_; rintro e w' ⟨rfl, rfl⟩)
  go_ret
  exact ⟨rfl, by (repeat' (first | with_reducible exact Chg.refl _ _ | with_reducible assumption | with_reducible refine Chg.drew ?_ | with_reducible refine Chg.drewN ?_ _ | with_reducible refine Chg.alloc ?_ _ | with_reducible refine Chg.putRow ?_ _ _ _ (.inr ?_) | with_reducible refine Chg.setCell ?_ _ _ _ (.inr ?_)  | with_reducible refine Chg.trans ?_ c2 | with_reducible refine Chg.trans (b := World.drew _) ?_ c2 | (show _ ≤ _; first | exact Nat.le_refl _ | omega | (simp; done))))⟩

theorem slt_whole {w wr : World} {l : List Nat} {n b o k : Nat} {ys : List Slt} {y : Slt} (h : Sl w 11 (some ⟨b, o, none⟩) n (cat Slt.enc ys)) (hc : Chg l w wr) (hb : b ∉ l) (hk : k < n) (hy : ys[k]? = some y) :
    ∃ c t f, wr.heap[b]? = some (.cells c t f) ∧ rowIn (some (.cells c t f)) (o + k * 11) 11 = true ∧ rowPart (some (.cells c t f)) (o + k * 11) 11 = slc y := by
  obtain ⟨cs, t, f, hb, _, hpa⟩ := (h.chg hc (by simpa using hb)).elem (by omega) hk (cat_part Slt.len hy)
  obtain ⟨r1, r2⟩ := hpa 0 11 (by omega)
  rw [Nat.add_zero] at r1 r2
  refine ⟨cs, t, f, hb, r1, ?_⟩
  rw [r2]
  simp [slc, Slt.len, List.take_of_length_le]
theorem idle_live (xs : List Slt) : idleB xs = (live xs).all (fun x => atRest x.st) := by
  unfold idleB live
  rw [List.all_filter]
  congr 1
  funext x
  unfold restB
  cases h : (x.st == 0) <;> simp [bne, h]
theorem gidle_any {W : World} {g a b S N : Nat} {s : Sta}  (w : World) (h : Agt W w g a b S N s) : Calls Tryz.prog 193 #[.pointer (some ⟨g, 0, none⟩)] w fun e w' => e = .returned (.bool (idleB s.1)) ∧ Chg [] w w' := by
  have H := Lib.hid h
  have rG := h.2.1
  clear h
  have hsl := gslots_any w H.out
  rw [idle_live]
  obtain ⟨ys, hys⟩ : ∃ ys, ys = live s.1 := ⟨_, rfl⟩
  rw [← hys] at hsl ⊢
  go_enter Tryz.func193, Tryz.ntmps193
  try dsimp only [List.append]
  go_wp2_with fail
  refine hsl.mono ?_
  rintro e w2 ⟨A, cp, rfl, hs, c2⟩
  have hl : ys.length ≤ 64 := by rw [hys]; exact Nat.le_trans (live_le _) H.out.good.len64
  have HS := Lib.hid hs
  have HC := Lib.hid c2
  obtain ⟨n, hn⟩ : ∃ n, n = ys.length := ⟨_, rfl⟩
  rw [← hn] at HS hl ⊢
  have HN := Lib.hid hn
  clear hs c2 hys rG hn hsl
  go_wp2_with fail
  go_loopw [8] (fun i wr => ∃ k : Nat, k ≤ n ∧ i = .int .i64 k ∧ Chg [] w2 wr ∧ ∀ x ∈ ys.take k, atRest x.st = true) (fun i _ => n - (intOf i).toNat)
  case atStart => exact ⟨0, by omega, rfl, Chg.refl _ _, by simp⟩
  case round =>
    obtain ⟨k, hk, rfl, hc, hall⟩ := hrel
    by_cases hlt : k < n
    · obtain ⟨b1, o1, rfl⟩ := HS.out.addr (by omega)
      obtain ⟨y, hy⟩ : ∃ y, ys[k]? = some y := ⟨ys[k]'(by rw [← HN.out]; exact hlt), List.getElem?_eq_getElem _⟩
      obtain ⟨cs, tt, f, hb, i1, i2⟩ := slt_whole HS.out hc (by simp) hlt hy
      have g1 : (k : Int) < (n : Int) := by omega
      have g0 : (0 : Int) ≤ (k : Int) := by omega
      have g2 : (n : Int) ≤ 64 := by omega
      have HA := Lib.hid hall
      have HK := Lib.hid hc
      have ht := List.take_succ_eq_append_getElem (by rw [← HN.out]; exact hlt : k < ys.length)
      rw [show ys[k]'(by rw [← HN.out]; exact hlt) = y from (List.getElem?_eq_some_iff.1 hy).2] at ht
      have HT := Lib.hid ht
      have HY := Lib.hid hy
      clear hall hc ht hy
      cases hr : atRest y.st
      · go_wp2_with (go_at_call 200; refine (grest_at _ _ hr _).mono ?_; rintro e w' ⟨rfl, rfl⟩)
        go_ret
        refine ⟨?_, (HC.out.trans HK.out).alloc _⟩
        have : ys.all (fun x => atRest x.st) = false := by
          rw [List.all_eq_false]
          exact ⟨y, List.mem_of_getElem? HY.out, by simp [hr]⟩
        rw [this]
        rfl
      · go_wp2_with (go_at_call 200; refine (grest_at _ _ hr _).mono ?_; rintro e w' ⟨rfl, rfl⟩)
        go_roundw
        case rel =>
          refine ⟨k + 1, by omega, by go_num, HK.out.alloc _, ?_⟩
          rw [HT.out]
          intro x hx
          rcases List.mem_append.1 hx with h1 | h1
          · exact HA.out x h1
          · rw [List.mem_singleton.1 h1]; exact hr
        case measure => simp [intOf]; omega
    · obtain rfl : k = n := by omega
      have HA := Lib.hid hall
      have HK := Lib.hid hc
      clear hall hc
      go_wp2_with fail
      go_ret
      refine ⟨?_, HC.out.trans HK.out⟩
      have : ys.all (fun x => atRest x.st) = true := by
        rw [List.all_eq_true]
        intro x hx
        exact HA.out x (by rw [HN.out, List.take_length]; exact hx)
      rw [this]
      rfl
theorem gidle_at {W : World} {g a b S N : Nat} {s : Sta} (v : Bool) (hv : idleB s.1 = v) (w : World) (h : Agt W w g a b S N s) : Calls Tryz.prog 193 #[.pointer (some ⟨g, 0, none⟩)] w fun e w' => e = .returned (.bool v) ∧ Chg [] w w' := hv ▸ gidle_any w h
theorem gowns_at {W : World} {g a b S N : Nat} {s : Sta} (li : Int) (v : Bool) (hv : ownsB s.1 li = v) (w : World) (h : Agt W w g a b S N s) : Calls Tryz.prog 175 #[.pointer (some ⟨g, 0, none⟩), .int .i64 li] w fun e w' => e = .returned (.bool v) ∧ Chg [] w w' := hv ▸ gowns_any li w h
end Go.Proofs.YtcjoinhngdfdmaaGreatDoor
end
section
namespace Go.Proofs.YtcjoinhngdfdmaaGreatDoor
open Go.RowKit
set_option linter.unusedVariables false
set_option maxHeartbeats 1000000
attribute [local go_sem ↓] append_appS copy_copS clear_clrS make_mkS cell_row frozen_row loadLine storeLine loadSlot storeSlot heap_drew heap_drewN heap_alloc heap_past heap_setCell heap_putRow vs_get slc_st slc_li slc_us slice_slS loadMsg storeMsg loadHas storeHas msc_kd msc_li msc_di msc_ke
attribute [local go_sem] rowCell_some rowFrozen_some rowHas_some rowIn_some rowPart_full rowPart_lit rowPut_full rowPut_lit rowSet_some size_putRow vs_size vs_one wideLine wideSlot run_loadS run_storeS run_appS run_copS run_clrS run_mkS loadW_at storeW_at fit_all fit_le one_int one_bool one_pointer one_slice allOne_list putRow_new ne_size1 ne_size2 ne_size3 ne_size4 zero8_length lines_nil line_eq lit8 slc_size slc_one slc_part slc_in fold_slt fold_slc slc_set_us wideMsg wideHas run_slS msc_size msc_one msc_part msc_in fold_msc msc_putDi msc_putKe msc_putX msc_has ms4_lit ms4_k ms4_l ms4_e
attribute [local simp ↓] heap_drew heap_drewN heap_alloc heap_past heap_setCell heap_putRow
attribute [local simp] rowCell_some rowFrozen_some rowHas_some rowIn_some rowPart_full rowPart_lit rowPut_full rowPut_lit rowSet_some size_putRow vs_size fit_all putRow_new ne_size1 ne_size2 ne_size3 ne_size4 zero8_length slc_size msc_size msc_putDi msc_putKe msc_putX msc_has fit_le ms4_k ms4_l ms4_e


section
variable {W w w1 : World} {g a b S N : Nat} {s : Sta} {f : Value → Value}
theorem AgRet.one (h : Agt W w1 g a b S N s) (hc : Chg [a, b] w w1) (m : Ms) : AgRet W w g a b S N s f [m] (.returned (f (.slice (some ⟨w1.heap.size, 0, none⟩) 1 1))) (w1.alloc (.cells (msc m) 50)) :=
  ⟨_, 1, rfl, (Told.one w1 m).from hc.size, h.keep ((Chg.refl [] w1).alloc _), hc.alloc _⟩
theorem AgRet.nil (h : Agt W w1 g a b S N s) (hc : Chg [a, b] w w1) : AgRet W w g a b S N s f [] (.returned (f (.slice none 0 0))) w1 :=
  ⟨none, 0, rfl, Told.nil _ _, h, hc⟩
theorem weak2 (h : Chg [] w w1) : Chg [a, b] w w1 := h.mono (by simp)
end
theorem out_yes {S N : Nat} {s : Sta} {li : Int} (h : atRest (findVal s.1 li).st = true) : outF S N s li = (setS S N s li (outNx (findVal s.1 li).st) (findVal s.1 li).l (findVal s.1 li).h, [toldM 3 (findVal s.1 li) false]) := by unfold outF; rw [if_pos h]
theorem out_no {S N : Nat} {s : Sta} {li : Int} (h : atRest (findVal s.1 li).st = false) : outF S N s li = (s, []) := by unfold outF; rw [if_neg (by simp [h])]
theorem gout_any {W : World} {g a b S N : Nat} {s : Sta} (li : Int) (w : World) (h : Agt W w g a b S N s) (hu : s.2 ≤ 1000000000) : Calls Tryz.prog 203 #[.pointer (some ⟨g, 0, none⟩), .int .i64 li] w (AgRet W w g a b S N (outF S N s li).1 (fun v => v) (outF S N s li).2) := by
  have H := Lib.hid h
  have rG := h.2.1
  have CW := Lib.hid (Chg.refl [a, b] w)
  clear h
  have hf := gfind_any H.out li
  cases hr : atRest (findVal s.1 li).st
  · rw [out_no hr]
    generalize findVal s.1 li = x at hf hr
    go_enter Tryz.func203, Tryz.ntmps203
    try dsimp only [List.append]
    go_wp2_with fail
    refine hf.mono ?_
    clear hf
    rintro e w2 ⟨rfl, c2⟩
    go_wp2_with (go_at_call 200; refine (grest_at _ _ hr _).mono ?_; rintro e w' ⟨rfl, rfl⟩)
    go_ret
    exact AgRet.nil (f := fun v => v) (H.out.keep (c2.alloc _)) (weak2 (c2.alloc _))
  · rw [out_yes hr]
    generalize findVal s.1 li = x at hf hr
    have hx8 := x.h
    have q : ((x.st == 3) = true ∧ outNx x.st = 9) ∨ ((x.st == 3) = false ∧ outNx x.st = 7) := by
      unfold outNx
      cases h3 : (x.st == 3)
      · exact .inr ⟨rfl, by rw [if_neg (by simpa using h3)]⟩
      · exact .inl ⟨rfl, by rw [if_pos (by simpa using h3)]⟩
    rcases q with ⟨q1, q2⟩ | ⟨q1, q2⟩
    all_goals
      rw [q2]
      clear q2
      go_enter Tryz.func203, Tryz.ntmps203
      try dsimp only [List.append]
      go_wp2_with fail
      refine hf.mono ?_
      clear hf
      rintro e w2 ⟨rfl, c2⟩
      replace H := Lib.hid (H.out.keep c2)
      replace CW := Lib.hid (CW.out.trans (weak2 c2))
      clear c2
      have rG := H.out.2.1
      go_wp2_with fail
      have cb := (Chg.refl [] w2).alloc (.cells (slc x) 205 (0, 0))
      have rX : (w2.alloc (.cells (slc x) 205 (0, 0))).heap[w2.heap.size]? = some (.cells (slc x) 205 (0, 0)) := by simp
      have nX := H.out.new2 (k := w2.heap.size) (Nat.le_refl _)
      have mX := H.out.new3 (k := w2.heap.size) (Nat.le_refl _)
      have vX := H.out.1.1.size
      have uXx := CW.out.size
      replace H := Lib.hid (H.out.keep cb)
      replace CW := Lib.hid (CW.out.trans (weak2 cb))
      clear cb
      generalize w2.heap.size = pX at rX nX mX vX uXx ⊢
      generalize w2.alloc (.cells (slc x) 205 (0, 0)) = w3 at rX H CW ⊢
      have rG := H.out.2.1
      have oX := old rX
      refine (grest_at _ _ hr _).mono ?_
      rintro e w' ⟨rfl, rfl⟩
      go_wp2_with fail
      have nG := H.out.2.2.2.1
      go_region_held3 (fun w' => w'.heap[g]? = some (.cells #[.pointer (some ⟨a, 0, none⟩)] 209 (0, 0)) ∧ w'.heap[pX]? = some (.cells (slc x) 205 (0, 0))) (first | exact ⟨rG, rX⟩ | exact ⟨c4.keep rG nG, c4.keep rX nX⟩)
        (first
          | (go_at_call 106; refine (gset_any (H.out.keep (Chg.drew (Chg.refl [] w3))) hu li _ x.l x.h).mono ?_; rintro e w4 ⟨rfl, h4, c4⟩))
      all_goals
        replace H := Lib.hid h4
        replace CW := Lib.hid (CW.out.trans (Chg.trans (Chg.drew (Chg.refl [a, b] w3)) c4))
        replace rX := c4.keep rX nX
        clear h4 c4 rG
        have rG := H.out.2.1
        go_wp2_with fail
        refine (gtold_any 3 x _).mono ?_
        rintro e w5 ⟨rfl, c5⟩
        go_wp2_with fail
        go_ret
        exact AgRet.one (f := fun v => v) (H.out.keep c5) (CW.out.trans (weak2 c5)) _
end Go.Proofs.YtcjoinhngdfdmaaGreatDoor
end
section
namespace Go.Proofs.YtcjoinhngdfdmaaGreatDoor
open Go.RowKit
set_option linter.unusedVariables false
set_option maxHeartbeats 1000000
attribute [local go_sem ↓] append_appS copy_copS clear_clrS make_mkS cell_row frozen_row loadLine storeLine loadSlot storeSlot heap_drew heap_drewN heap_alloc heap_past heap_setCell heap_putRow vs_get slc_st slc_li slc_us slice_slS loadMsg storeMsg loadHas storeHas msc_kd msc_li msc_di msc_ke
attribute [local go_sem] rowCell_some rowFrozen_some rowHas_some rowIn_some rowPart_full rowPart_lit rowPut_full rowPut_lit rowSet_some size_putRow vs_size vs_one wideLine wideSlot run_loadS run_storeS run_appS run_copS run_clrS run_mkS loadW_at storeW_at fit_all fit_le one_int one_bool one_pointer one_slice allOne_list putRow_new ne_size1 ne_size2 ne_size3 ne_size4 zero8_length lines_nil line_eq lit8 slc_size slc_one slc_part slc_in fold_slt fold_slc slc_set_us wideMsg wideHas run_slS msc_size msc_one msc_part msc_in fold_msc msc_putDi msc_putKe msc_putX msc_has ms4_lit ms4_k ms4_l ms4_e
attribute [local simp ↓] heap_drew heap_drewN heap_alloc heap_past heap_setCell heap_putRow
attribute [local simp] rowCell_some rowFrozen_some rowHas_some rowIn_some rowPart_full rowPart_lit rowPut_full rowPut_lit rowSet_some size_putRow vs_size fit_all putRow_new ne_size1 ne_size2 ne_size3 ne_size4 zero8_length slc_size msc_size msc_putDi msc_putKe msc_putX msc_has fit_le ms4_k ms4_l ms4_e

theorem gget_any {W : World} {g a b S N : Nat} {s : Sta} (li st kd : Int) (w : World) (h : Agt W w g a b S N s) (hu : s.2 ≤ 1000000000) : Calls Tryz.prog 194 #[.pointer (some ⟨g, 0, none⟩), .int .i64 li, .int .i64 st, .int .i64 kd] w (AgRet W w g a b S N (getF S N s li st kd).1 (fun v => v) (getF S N s li st kd).2) := by
  have H := Lib.hid h
  have rG := h.2.1
  have CW := Lib.hid (Chg.refl [a, b] w)
  clear h
  have hf := groom_any H.out li
  cases hr : roomFree S N s.1 li
  · rw [show getF S N s li st kd = outF S N s (roomVic S N s.1 li) by unfold getF; rw [if_neg (by simp [hr])]]
    rw [hr] at hf
    generalize roomVic S N s.1 li = v at hf
    go_enter Tryz.func194, Tryz.ntmps194
    try dsimp only [List.append]
    go_wp2_with fail
    refine hf.mono ?_
    clear hf
    rintro e w2 ⟨rfl, c2⟩
    replace H := Lib.hid (H.out.keep c2)
    replace CW := Lib.hid (CW.out.trans (weak2 c2))
    clear c2
    have rG := H.out.2.1
    go_wp2_with fail
    refine (gout_any v w2 H.out hu).mono ?_
    rintro e w3 ⟨A, n, rfl, h1, h2, h3⟩
    go_wp2_with fail
    go_ret
    exact ⟨A, n, rfl, h1.from CW.out.size, h2, CW.out.trans h3⟩
  · rw [show getF S N s li st kd = (setS S N s li st zl8 rfl, [ms4 kd li false false]) by unfold getF; rw [if_pos hr]]
    rw [hr] at hf
    generalize roomVic S N s.1 li = v at hf
    go_enter Tryz.func194, Tryz.ntmps194
    try dsimp only [List.append]
    go_wp2_with fail
    refine hf.mono ?_
    clear hf
    rintro e w2 ⟨rfl, c2⟩
    replace H := Lib.hid (H.out.keep c2)
    replace CW := Lib.hid (CW.out.trans (weak2 c2))
    clear c2
    have rG := H.out.2.1
    go_wp2_with fail
    refine (gsetz_any H.out hu li st).mono ?_
    rintro e w4 ⟨rfl, h4, c4⟩
    go_wp2_with fail
    go_ret
    exact AgRet.one (f := fun v => v) h4 (CW.out.trans c4) _
theorem gload_any {W : World} {g a b S N : Nat} {s : Sta} (li k : Int) (w : World) (h : Agt W w g a b S N s) (hu : s.2 ≤ 1000000000) : Calls Tryz.prog 173 #[.pointer (some ⟨g, 0, none⟩), .int .i64 li, .int .i64 k] w (AgRet W w g a b S N (loadF S N s li k).1 (fun v => .tuple #[.int .u64 (loadF S N s li k).2.1, .bool (loadF S N s li k).2.2.1, v]) (loadF S N s li k).2.2.2) := by
  have H := Lib.hid h
  have rG := h.2.1
  have CW := Lib.hid (Chg.refl [a, b] w)
  clear h
  have hf := gfind_any H.out li
  cases t1 : isLn li
  · rw [show loadF S N s li k = (s, (0, false, [])) by unfold loadF; rw [if_neg (by simp [t1])]]
    go_enter Tryz.func173, Tryz.ntmps173
    try dsimp only [List.append]
    go_wp2_with (first | (go_at_call 177; refine (gline_at _ _ t1 _).mono ?_; rintro e w' ⟨rfl, rfl⟩) | (go_at_call 178; refine (gword_at _ _ t2 _).mono ?_; rintro e w' ⟨rfl, rfl⟩))
    go_ret3
    exact AgRet.nil (f := fun v => .tuple #[.int .u64 0, .bool false, v]) H.out CW.out
  cases t2 : isWd k
  · rw [show loadF S N s li k = (s, (0, false, [])) by unfold loadF; rw [if_neg (by simp [t2])]]
    go_enter Tryz.func173, Tryz.ntmps173
    try dsimp only [List.append]
    go_wp2_with (first | (go_at_call 177; refine (gline_at _ _ t1 _).mono ?_; rintro e w' ⟨rfl, rfl⟩) | (go_at_call 178; refine (gword_at _ _ t2 _).mono ?_; rintro e w' ⟨rfl, rfl⟩))
    go_ret3
    exact AgRet.nil (f := fun v => .tuple #[.int .u64 0, .bool false, v]) H.out CW.out
  obtain ⟨K, hK, rfl⟩ : ∃ K : Nat, K < 8 ∧ k = K := by simp [isWd] at t2; exact ⟨k.toNat, by omega, by omega⟩
  cases hm : mayR (findVal s.1 li).st
  · cases hi : idleB s.1
    · rw [show loadF S N s li K = (s, (0, false, [])) by unfold loadF; rw [if_pos (by simp [t1, t2]), if_neg (by simp [hm]), if_neg (by simp [hi])]]
      generalize findVal s.1 li = x at hf hm
      go_enter Tryz.func173, Tryz.ntmps173
      try dsimp only [List.append]
      go_wp2_with (first | (go_at_call 177; refine (gline_at _ _ t1 _).mono ?_; rintro e w' ⟨rfl, rfl⟩) | (go_at_call 178; refine (gword_at _ _ t2 _).mono ?_; rintro e w' ⟨rfl, rfl⟩))
      refine hf.mono ?_
      clear hf
      rintro e w2 ⟨rfl, c2⟩
      replace H := Lib.hid (H.out.keep c2)
      replace CW := Lib.hid (CW.out.trans (weak2 c2))
      clear c2
      have rG := H.out.2.1
      go_wp2_with fail
      have cb := (Chg.refl [] w2).alloc (.cells (slc x) 205 (0, 0))
      have rX : (w2.alloc (.cells (slc x) 205 (0, 0))).heap[w2.heap.size]? = some (.cells (slc x) 205 (0, 0)) := by simp
      have nX := H.out.new2 (k := w2.heap.size) (Nat.le_refl _)
      have mX := H.out.new3 (k := w2.heap.size) (Nat.le_refl _)
      have vX := H.out.1.1.size
      have uXx := CW.out.size
      replace H := Lib.hid (H.out.keep cb)
      replace CW := Lib.hid (CW.out.trans (weak2 cb))
      clear cb
      generalize w2.heap.size = pX at rX nX mX vX uXx ⊢
      generalize w2.alloc (.cells (slc x) 205 (0, 0)) = w3 at rX H CW ⊢
      have rG := H.out.2.1
      have oX := old rX
      refine (gread_at _ _ hm _).mono ?_
      rintro e w' ⟨rfl, rfl⟩
      go_wp2_with fail
      refine (gidle_at _ hi w3 H.out).mono ?_
      rintro e w4 ⟨rfl, c4⟩
      go_wp2_with fail
      go_ret3
      exact AgRet.nil (f := fun v => .tuple #[.int .u64 0, .bool false, v]) (H.out.keep c4) (CW.out.trans (weak2 c4))
    · rw [show loadF S N s li K = ((getF S N s li 4 1).1, (0, false, (getF S N s li 4 1).2)) by unfold loadF; rw [if_pos (by simp [t1, t2]), if_neg (by simp [hm]), if_pos hi]]
      generalize findVal s.1 li = x at hf hm
      go_enter Tryz.func173, Tryz.ntmps173
      try dsimp only [List.append]
      go_wp2_with (first | (go_at_call 177; refine (gline_at _ _ t1 _).mono ?_; rintro e w' ⟨rfl, rfl⟩) | (go_at_call 178; refine (gword_at _ _ t2 _).mono ?_; rintro e w' ⟨rfl, rfl⟩))
      refine hf.mono ?_
      clear hf
      rintro e w2 ⟨rfl, c2⟩
      replace H := Lib.hid (H.out.keep c2)
      replace CW := Lib.hid (CW.out.trans (weak2 c2))
      clear c2
      have rG := H.out.2.1
      go_wp2_with fail
      have cb := (Chg.refl [] w2).alloc (.cells (slc x) 205 (0, 0))
      have rX : (w2.alloc (.cells (slc x) 205 (0, 0))).heap[w2.heap.size]? = some (.cells (slc x) 205 (0, 0)) := by simp
      have nX := H.out.new2 (k := w2.heap.size) (Nat.le_refl _)
      have mX := H.out.new3 (k := w2.heap.size) (Nat.le_refl _)
      have vX := H.out.1.1.size
      have uXx := CW.out.size
      replace H := Lib.hid (H.out.keep cb)
      replace CW := Lib.hid (CW.out.trans (weak2 cb))
      clear cb
      generalize w2.heap.size = pX at rX nX mX vX uXx ⊢
      generalize w2.alloc (.cells (slc x) 205 (0, 0)) = w3 at rX H CW ⊢
      have rG := H.out.2.1
      have oX := old rX
      refine (gread_at _ _ hm _).mono ?_
      rintro e w' ⟨rfl, rfl⟩
      go_wp2_with fail
      refine (gidle_at _ hi w3 H.out).mono ?_
      rintro e w4 ⟨rfl, c4⟩
      replace H := Lib.hid (H.out.keep c4)
      replace CW := Lib.hid (CW.out.trans (weak2 c4))
      clear c4
      have rG := H.out.2.1
      go_wp2_with fail
      refine (gget_any li 4 1 w4 H.out hu).mono ?_
      rintro e w5 ⟨A, n, rfl, h1, h2, h3⟩
      go_wp2_with fail
      go_ret3
      exact ⟨A, n, rfl, h1.from CW.out.size, h2, CW.out.trans h3⟩
  · rw [show loadF S N s li K = (touchS s li, ((findVal s.1 li).l.getD K 0, true, [])) by unfold loadF; rw [if_pos (by simp [t1, t2]), if_pos hm, Int.toNat_natCast]]
    generalize findVal s.1 li = x at hf hm
    have hwd := slc_word x K hK
    have g1 : (K : Int) < 8 := by omega
    have g0 : (0 : Int) ≤ (K : Int) := by omega
    go_enter Tryz.func173, Tryz.ntmps173
    try dsimp only [List.append]
    go_wp2_with (first | (go_at_call 177; refine (gline_at _ _ t1 _).mono ?_; rintro e w' ⟨rfl, rfl⟩) | (go_at_call 178; refine (gword_at _ _ t2 _).mono ?_; rintro e w' ⟨rfl, rfl⟩))
    refine hf.mono ?_
    clear hf
    rintro e w2 ⟨rfl, c2⟩
    replace H := Lib.hid (H.out.keep c2)
    replace CW := Lib.hid (CW.out.trans (weak2 c2))
    clear c2
    have rG := H.out.2.1
    go_wp2_with fail
    have cb := (Chg.refl [] w2).alloc (.cells (slc x) 205 (0, 0))
    have rX : (w2.alloc (.cells (slc x) 205 (0, 0))).heap[w2.heap.size]? = some (.cells (slc x) 205 (0, 0)) := by simp
    have nX := H.out.new2 (k := w2.heap.size) (Nat.le_refl _)
    have mX := H.out.new3 (k := w2.heap.size) (Nat.le_refl _)
    have vX := H.out.1.1.size
    have uXx := CW.out.size
    replace H := Lib.hid (H.out.keep cb)
    replace CW := Lib.hid (CW.out.trans (weak2 cb))
    clear cb
    generalize w2.heap.size = pX at rX nX mX vX uXx ⊢
    generalize w2.alloc (.cells (slc x) 205 (0, 0)) = w3 at rX H CW ⊢
    have rG := H.out.2.1
    have oX := old rX
    refine (gread_at _ _ hm _).mono ?_
    rintro e w' ⟨rfl, rfl⟩
    go_wp2_with fail
    refine (gtouch_any H.out hu li).mono ?_
    rintro e w4 ⟨rfl, h4, c4⟩
    replace rX := c4.keep rX nX
    go_wp2_with fail
    go_ret3
    exact AgRet.nil (f := fun v => .tuple #[.int .u64 (x.l.getD K 0), .bool true, v]) h4 (CW.out.trans c4)
theorem greach_any {W : World} {g a b S N : Nat} {s : Sta} (li : Int) (w : World) (h : Agt W w g a b S N s) (hu : s.2 ≤ 1000000000) : Calls Tryz.prog 176 #[.pointer (some ⟨g, 0, none⟩), .int .i64 li] w (AgRet W w g a b S N (reachF S N s li).1 (fun v => v) (reachF S N s li).2) := by
  have H := Lib.hid h
  have rG := h.2.1
  have CW := Lib.hid (Chg.refl [a, b] w)
  clear h
  have hf := gfind_any H.out li
  cases t1 : isLn li
  · rw [show reachF S N s li = (s, []) by unfold reachF; rw [if_neg (by simp [t1])]]
    go_enter Tryz.func176, Tryz.ntmps176
    try dsimp only [List.append]
    go_wp2_with (go_at_call 177; refine (gline_at _ _ t1 _).mono ?_; rintro e w' ⟨rfl, rfl⟩)
    go_ret
    exact AgRet.nil (f := fun v => v) H.out CW.out
  cases ho : ownsB s.1 li
  rotate_left
  · rw [show reachF S N s li = (s, []) by unfold reachF; rw [if_neg (by simp [ho])]]
    go_enter Tryz.func176, Tryz.ntmps176
    try dsimp only [List.append]
    go_wp2_with (go_at_call 177; refine (gline_at _ _ t1 _).mono ?_; rintro e w' ⟨rfl, rfl⟩)
    refine (gowns_at li _ ho w H.out).mono ?_
    rintro e w3 ⟨rfl, c3⟩
    go_wp2_with fail
    go_ret
    exact AgRet.nil (f := fun v => v) (H.out.keep c3) (weak2 c3)
  cases hi : idleB s.1
  · rw [show reachF S N s li = (s, []) by unfold reachF; rw [if_neg (by simp [hi])]]
    go_enter Tryz.func176, Tryz.ntmps176
    try dsimp only [List.append]
    go_wp2_with (go_at_call 177; refine (gline_at _ _ t1 _).mono ?_; rintro e w' ⟨rfl, rfl⟩)
    refine (gowns_at li _ ho w H.out).mono ?_
    rintro e w3 ⟨rfl, c3⟩
    go_wp2_with fail
    refine (gidle_at _ hi w3 (H.out.keep c3)).mono ?_
    rintro e w4 ⟨rfl, c4⟩
    go_wp2_with fail
    go_ret
    exact AgRet.nil (f := fun v => v) ((H.out.keep c3).keep c4) (weak2 (c3.trans c4))
  have hgo : (isLn li && !ownsB s.1 li && idleB s.1) = true := by simp [t1, ho, hi]
  cases hd : dropVal s.1 li
  · rw [show reachF S N s li = getF S N s li 5 2 by unfold reachF; rw [if_pos hgo, if_neg (by simp [hd])]]
    clear hgo
    generalize findVal s.1 li = x at hf
    rw [hd] at hf
    go_enter Tryz.func176, Tryz.ntmps176
    try dsimp only [List.append]
    go_wp2_with (go_at_call 177; refine (gline_at _ _ t1 _).mono ?_; rintro e w' ⟨rfl, rfl⟩)
    refine (gowns_at li _ ho w H.out).mono ?_
    rintro e w3 ⟨rfl, c3⟩
    go_wp2_with fail
    refine (gidle_at _ hi w3 (H.out.keep c3)).mono ?_
    rintro e w4 ⟨rfl, c4⟩
    replace hf := gfind_any ((H.out.keep c3).keep c4) li
    rw [hd] at hf
    replace H := Lib.hid (H.out.keep c3)
    replace CW := Lib.hid (CW.out.trans (weak2 c3))
    clear c3
    have rG := H.out.2.1
    replace H := Lib.hid (H.out.keep c4)
    replace CW := Lib.hid (CW.out.trans (weak2 c4))
    clear c4
    have rG := H.out.2.1
    go_wp2_with fail
    refine hf.mono ?_
    clear hf
    rintro e w2 ⟨rfl, c2⟩
    generalize findVal s.1 li = x
    replace H := Lib.hid (H.out.keep c2)
    replace CW := Lib.hid (CW.out.trans (weak2 c2))
    clear c2
    have rG := H.out.2.1
    go_wp2_with fail
    have cb := (Chg.refl [] w2).alloc (.cells (slc x) 205 (0, 0))
    have rX : (w2.alloc (.cells (slc x) 205 (0, 0))).heap[w2.heap.size]? = some (.cells (slc x) 205 (0, 0)) := by simp
    have nX := H.out.new2 (k := w2.heap.size) (Nat.le_refl _)
    have mX := H.out.new3 (k := w2.heap.size) (Nat.le_refl _)
    have vX := H.out.1.1.size
    have uXx := CW.out.size
    replace H := Lib.hid (H.out.keep cb)
    replace CW := Lib.hid (CW.out.trans (weak2 cb))
    clear cb
    generalize w2.heap.size = pX at rX nX mX vX uXx ⊢
    generalize w2.alloc (.cells (slc x) 205 (0, 0)) = w5 at rX H CW ⊢
    have rG := H.out.2.1
    have oX := old rX
    refine (gget_any li 5 2 w5 H.out hu).mono ?_
    rintro e w6 ⟨A, n, rfl, h1, h2, h3⟩
    go_wp2_with fail
    go_ret
    exact ⟨A, n, rfl, h1.from CW.out.size, h2, CW.out.trans h3⟩
  · rw [show reachF S N s li = (setS S N s li 6 (findVal s.1 li).l (findVal s.1 li).h, [ms4 2 li false false]) by unfold reachF; rw [if_pos hgo, if_pos hd]]
    clear hgo
    replace hf := fun W' hW => gfind_any (w := W') (s := s) (W := W) (g := g) (a := a) (b := b) (S := S) (N := N) hW li
    simp only [hd] at hf
    generalize findVal s.1 li = x at hf
    go_enter Tryz.func176, Tryz.ntmps176
    try dsimp only [List.append]
    go_wp2_with (go_at_call 177; refine (gline_at _ _ t1 _).mono ?_; rintro e w' ⟨rfl, rfl⟩)
    refine (gowns_at li _ ho w H.out).mono ?_
    rintro e w3 ⟨rfl, c3⟩
    go_wp2_with fail
    refine (gidle_at _ hi w3 (H.out.keep c3)).mono ?_
    rintro e w4 ⟨rfl, c4⟩
    replace H := Lib.hid (H.out.keep c3)
    replace CW := Lib.hid (CW.out.trans (weak2 c3))
    clear c3
    have rG := H.out.2.1
    replace H := Lib.hid (H.out.keep c4)
    replace CW := Lib.hid (CW.out.trans (weak2 c4))
    clear c4
    have rG := H.out.2.1
    go_wp2_with fail
    refine (hf w4 H.out).mono ?_
    clear hf
    rintro e w2 ⟨rfl, c2⟩
    replace H := Lib.hid (H.out.keep c2)
    replace CW := Lib.hid (CW.out.trans (weak2 c2))
    clear c2
    have rG := H.out.2.1
    go_wp2_with fail
    have cb := (Chg.refl [] w2).alloc (.cells (slc x) 205 (0, 0))
    have rX : (w2.alloc (.cells (slc x) 205 (0, 0))).heap[w2.heap.size]? = some (.cells (slc x) 205 (0, 0)) := by simp
    have nX := H.out.new2 (k := w2.heap.size) (Nat.le_refl _)
    have mX := H.out.new3 (k := w2.heap.size) (Nat.le_refl _)
    have vX := H.out.1.1.size
    have uXx := CW.out.size
    replace H := Lib.hid (H.out.keep cb)
    replace CW := Lib.hid (CW.out.trans (weak2 cb))
    clear cb
    generalize w2.heap.size = pX at rX nX mX vX uXx ⊢
    generalize w2.alloc (.cells (slc x) 205 (0, 0)) = w5 at rX H CW ⊢
    have rG := H.out.2.1
    have oX := old rX
    go_wp2_with fail
    have nG := H.out.2.2.2.1
    go_region_held3 (fun w' => w'.heap[g]? = some (.cells #[.pointer (some ⟨a, 0, none⟩)] 209 (0, 0)) ∧ w'.heap[pX]? = some (.cells (slc x) 205 (0, 0))) (first | exact ⟨rG, rX⟩ | exact ⟨c4.keep rG nG, c4.keep rX nX⟩)
      (first
        | (go_at_call 106; refine (gset_any (H.out.keep (Chg.drew (Chg.refl [] w5))) hu li 6 x.l x.h).mono ?_; rintro e w4 ⟨rfl, h4, c4⟩))
    all_goals
      replace H := Lib.hid h4
      replace CW := Lib.hid (CW.out.trans (Chg.trans (Chg.drew (Chg.refl [a, b] w5)) c4))
      replace rX := c4.keep rX nX
      clear h4 c4 rG
      have rG := H.out.2.1
      go_wp2_with fail
      go_ret
      exact AgRet.one (f := fun v => v) H.out CW.out _
theorem gstore_any {W : World} {g a b S N : Nat} {s : Sta} (li k v0 : Int) (w : World) (h : Agt W w g a b S N s) (hu : s.2 ≤ 1000000000) : Calls Tryz.prog 142 #[.pointer (some ⟨g, 0, none⟩), .int .i64 li, .int .i64 k, .int .u64 v0] w (AgRet W w g a b S N (storeF S N s li k v0).1 (fun v => .tuple #[.bool (storeF S N s li k v0).2.1, v]) (storeF S N s li k v0).2.2) := by
  have H := Lib.hid h
  have rG := h.2.1
  have CW := Lib.hid (Chg.refl [a, b] w)
  clear h
  have hf := gfind_any H.out li
  cases t1 : isLn li
  · rw [show storeF S N s li k v0 = (s, (false, [])) by unfold storeF; rw [if_neg (by simp [t1])]]
    go_enter Tryz.func142, Tryz.ntmps142
    try dsimp only [List.append]
    go_wp2_with (first | (go_at_call 177; refine (gline_at _ _ t1 _).mono ?_; rintro e w' ⟨rfl, rfl⟩) | (go_at_call 178; refine (gword_at _ _ t2 _).mono ?_; rintro e w' ⟨rfl, rfl⟩))
    go_ret2
    exact AgRet.nil (f := fun v => .tuple #[.bool false, v]) H.out CW.out
  cases t2 : isWd k
  · rw [show storeF S N s li k v0 = (s, (false, [])) by unfold storeF; rw [if_neg (by simp [t2])]]
    go_enter Tryz.func142, Tryz.ntmps142
    try dsimp only [List.append]
    go_wp2_with (first | (go_at_call 177; refine (gline_at _ _ t1 _).mono ?_; rintro e w' ⟨rfl, rfl⟩) | (go_at_call 178; refine (gword_at _ _ t2 _).mono ?_; rintro e w' ⟨rfl, rfl⟩))
    go_ret2
    exact AgRet.nil (f := fun v => .tuple #[.bool false, v]) H.out CW.out
  obtain ⟨K, hK, rfl⟩ : ∃ K : Nat, K < 8 ∧ k = K := by simp [isWd] at t2; exact ⟨k.toNat, by omega, by omega⟩
  cases hm : mayWr (findVal s.1 li).st
  · rw [show storeF S N s li K v0 = ((reachF S N s li).1, (false, (reachF S N s li).2)) by unfold storeF ownsB; rw [if_pos (by simp [t1, t2]), if_neg (by simp [hm])]]
    generalize findVal s.1 li = x at hf hm
    go_enter Tryz.func142, Tryz.ntmps142
    try dsimp only [List.append]
    go_wp2_with (first | (go_at_call 177; refine (gline_at _ _ t1 _).mono ?_; rintro e w' ⟨rfl, rfl⟩) | (go_at_call 178; refine (gword_at _ _ t2 _).mono ?_; rintro e w' ⟨rfl, rfl⟩))
    refine hf.mono ?_
    clear hf
    rintro e w2 ⟨rfl, c2⟩
    replace H := Lib.hid (H.out.keep c2)
    replace CW := Lib.hid (CW.out.trans (weak2 c2))
    clear c2
    have rG := H.out.2.1
    go_wp2_with fail
    have cb := (Chg.refl [] w2).alloc (.cells (slc x) 205 (0, 0))
    have rX : (w2.alloc (.cells (slc x) 205 (0, 0))).heap[w2.heap.size]? = some (.cells (slc x) 205 (0, 0)) := by simp
    have nX := H.out.new2 (k := w2.heap.size) (Nat.le_refl _)
    have mX := H.out.new3 (k := w2.heap.size) (Nat.le_refl _)
    have vX := H.out.1.1.size
    have uXx := CW.out.size
    replace H := Lib.hid (H.out.keep cb)
    replace CW := Lib.hid (CW.out.trans (weak2 cb))
    clear cb
    generalize w2.heap.size = pX at rX nX mX vX uXx ⊢
    generalize w2.alloc (.cells (slc x) 205 (0, 0)) = w3 at rX H CW ⊢
    have rG := H.out.2.1
    have oX := old rX
    refine (gwrite_at _ _ hm _).mono ?_
    rintro e w' ⟨rfl, rfl⟩
    go_wp2_with fail
    refine (greach_any li w3 H.out hu).mono ?_
    rintro e w5 ⟨A, n, rfl, h1, h2, h3⟩
    go_wp2_with fail
    go_ret2
    exact ⟨A, n, rfl, h1.from CW.out.size, h2, CW.out.trans h3⟩
  · have e1 : storeF S N s li K v0 = (setS S N s li 3 ((findVal s.1 li).l.set K v0) (by rw [List.length_set]; exact (findVal s.1 li).h), (true, [])) := by
      unfold storeF ownsB; rw [if_pos (by simp [t1, t2]), if_pos hm]; rfl
    rw [e1]
    clear e1
    generalize findVal s.1 li = x at hf hm
    have hx8 := x.h
    have hsw := slc_setWord x K v0 hK
    have hwd := slc_word x K hK
    have g1 : (K : Int) < 8 := by omega
    have g0 : (0 : Int) ≤ (K : Int) := by omega
    have hl8 : (x.l.set K v0).length = 8 := by rw [List.length_set]; exact x.h
    go_enter Tryz.func142, Tryz.ntmps142
    try dsimp only [List.append]
    go_wp2_with (first | (go_at_call 177; refine (gline_at _ _ t1 _).mono ?_; rintro e w' ⟨rfl, rfl⟩) | (go_at_call 178; refine (gword_at _ _ t2 _).mono ?_; rintro e w' ⟨rfl, rfl⟩))
    refine hf.mono ?_
    clear hf
    rintro e w2 ⟨rfl, c2⟩
    replace H := Lib.hid (H.out.keep c2)
    replace CW := Lib.hid (CW.out.trans (weak2 c2))
    clear c2
    have rG := H.out.2.1
    go_wp2_with fail
    have cb := (Chg.refl [] w2).alloc (.cells (slc x) 205 (0, 0))
    have rX : (w2.alloc (.cells (slc x) 205 (0, 0))).heap[w2.heap.size]? = some (.cells (slc x) 205 (0, 0)) := by simp
    have nX := H.out.new2 (k := w2.heap.size) (Nat.le_refl _)
    have mX := H.out.new3 (k := w2.heap.size) (Nat.le_refl _)
    have vX := H.out.1.1.size
    have uXx := CW.out.size
    replace H := Lib.hid (H.out.keep cb)
    replace CW := Lib.hid (CW.out.trans (weak2 cb))
    clear cb
    generalize w2.heap.size = pX at rX nX mX vX uXx ⊢
    generalize w2.alloc (.cells (slc x) 205 (0, 0)) = w3 at rX H CW ⊢
    have rG := H.out.2.1
    have oX := old rX
    refine (gwrite_at _ _ hm _).mono ?_
    rintro e w' ⟨rfl, rfl⟩
    go_wp2_with fail
    have cb : Chg [pX] w3 (w3.setCell ⟨pX, 2 + K, none⟩ (.int .u64 v0)) := (Chg.refl [pX] w3).setCell _ _ _ (.inl (by simp))
    have rX2 : (w3.setCell ⟨pX, 2 + K, none⟩ (.int .u64 v0)).heap[pX]? = some (.cells (slc (x.putL (x.l.set K v0) hl8)) 205 (0, 0)) := by simp [rX, hsw]
    replace CW := Lib.hid (CW.out.trans' cb (by simp [uXx]))
    replace H := Lib.hid (H.out.apart cb mX vX)
    clear cb rX rG hsw hwd
    have rX := rX2
    clear rX2
    generalize w3.setCell ⟨pX, 2 + K, none⟩ (.int .u64 v0) = w5 at rX H CW ⊢
    have rG := H.out.2.1
    have oX := old rX
    have nG := H.out.2.2.2.1
    go_region_held3 (fun w' => w'.heap[g]? = some (.cells #[.pointer (some ⟨a, 0, none⟩)] 209 (0, 0)) ∧ w'.heap[pX]? = some (.cells (slc (x.putL (x.l.set K v0) hl8)) 205 (0, 0))) (first | exact ⟨rG, rX⟩ | exact ⟨c4.keep rG nG, c4.keep rX nX⟩)
      (first
        | (go_at_call 106; refine (gset_any (H.out.keep (Chg.drew (Chg.refl [] w5))) hu li 3 (x.l.set K v0) hl8).mono ?_; rintro e w4 ⟨rfl, h4, c4⟩))
    all_goals
      replace H := Lib.hid h4
      replace CW := Lib.hid (CW.out.trans (Chg.trans (Chg.drew (Chg.refl [a, b] w5)) c4))
      replace rX := c4.keep rX nX
      clear h4 c4 rG
      have rG := H.out.2.1
      go_wp2_with fail
      go_ret2
      exact AgRet.nil (f := fun v => .tuple #[.bool true, v]) H.out CW.out
end Go.Proofs.YtcjoinhngdfdmaaGreatDoor
end
section
namespace Go.Proofs.YtcjoinhngdfdmaaGreatDoor
open Go.RowKit
set_option linter.unusedVariables false
set_option maxHeartbeats 1000000
attribute [local go_sem ↓] append_appS copy_copS clear_clrS make_mkS cell_row frozen_row loadLine storeLine loadSlot storeSlot heap_drew heap_drewN heap_alloc heap_past heap_setCell heap_putRow vs_get slc_st slc_li slc_us slice_slS loadMsg storeMsg loadHas storeHas msc_kd msc_li msc_di msc_ke
attribute [local go_sem] rowCell_some rowFrozen_some rowHas_some rowIn_some rowPart_full rowPart_lit rowPut_full rowPut_lit rowSet_some size_putRow vs_size vs_one wideLine wideSlot run_loadS run_storeS run_appS run_copS run_clrS run_mkS loadW_at storeW_at fit_all fit_le one_int one_bool one_pointer one_slice allOne_list putRow_new ne_size1 ne_size2 ne_size3 ne_size4 zero8_length lines_nil line_eq lit8 slc_size slc_one slc_part slc_in fold_slt fold_slc slc_set_us wideMsg wideHas run_slS msc_size msc_one msc_part msc_in fold_msc msc_putDi msc_putKe msc_putX msc_has ms4_lit ms4_k ms4_l ms4_e
attribute [local simp ↓] heap_drew heap_drewN heap_alloc heap_past heap_setCell heap_putRow
attribute [local simp] rowCell_some rowFrozen_some rowHas_some rowIn_some rowPart_full rowPart_lit rowPut_full rowPut_lit rowSet_some size_putRow vs_size fit_all putRow_new ne_size1 ne_size2 ne_size3 ne_size4 zero8_length slc_size msc_size msc_putDi msc_putKe msc_putX msc_has fit_le ms4_k ms4_l ms4_e


/-! ### The table of what messages make of slots -/
def tbL : List Value := ((List.range 15).map fun k : Nat => (List.range 10).map fun j : Nat => Value.int .i64 (tb k j)).flatten
def TabB (w : World) : Prop := ∃ t f, w.heap[0]? = some (.cells tbL.toArray t f)
theorem TabB.keep {w w' : World} {l : List Nat} (h : TabB w) (hc : Chg l w w') (h0 : 0 ∉ l) : TabB w' := by
  obtain ⟨t, f, h⟩ := h
  exact ⟨t, f, hc.keep h h0⟩
theorem AgRet.ms {W w w1 w2 : World} {g a b S N : Nat} {s : Sta} {f : Value → Value} {A : Option Addr} {ms : List Ms} {n : Nat} (h : Agt W w1 g a b S N s) (hc : Chg [a, b] w w1) (h1 : Told w1 w2 A ms) (c : Chg [] w1 w2) : AgRet W w g a b S N s f ms (.returned (f (.slice A ms.length n))) w2 :=
  ⟨A, n, rfl, h1.from hc.size, h.keep c, hc.trans (weak2 c)⟩
end Go.Proofs.YtcjoinhngdfdmaaGreatDoor
end
