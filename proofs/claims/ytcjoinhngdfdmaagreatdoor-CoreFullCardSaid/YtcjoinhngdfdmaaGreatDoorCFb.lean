/- What a statement of layer 13 needs further: by parts. No condition. -/
import Derived.Test.YtcjoinhngdfdmaaGreatDoorCFa
import Derived.Test.YtcjoinhngdfdmaaGreatDoorCNaq
import Derived.Below
import Derived.BigQuiet
import Derived.ChangeArms
import Derived.ChangeKeysEq
import Derived.Deep.Cut
import Derived.Deep.CutBlock
import Derived.Deep.CutRange
import Derived.Deep.DeepCutAuto
import Derived.Deep.MidRow
import Derived.Deep.QuietTactic
import Derived.Deep.RegionHeld3
import Derived.Deep.RegionWith
import Derived.DeepKeys
import Derived.IntWalk
import Derived.Laws.LoneSync
import Derived.Laws.StructEq
import Derived.Lib.Hide
import Derived.Lib.SliceRun
import Derived.OpenShut
import Derived.ProofKit
import Derived.Test.YtcjoinhngdfdmaaGreatDoorChecked
import Derived.WalkKit
import Derived.WideShapes
section
namespace Go.Proofs.YtcjoinhngdfdmaaGreatDoor
open Go.RowKit
set_option linter.unusedVariables false
set_option maxHeartbeats 1000000
set_option maxRecDepth 100000
attribute [local go_sem ↓] append_appS copy_copS clear_clrS make_mkS cell_row frozen_row loadLine storeLine loadSlot storeSlot heap_drew heap_drewN heap_alloc heap_past heap_setCell heap_putRow vs_get slc_st slc_li slc_us slice_slS loadMsg storeMsg loadHas storeHas msc_kd msc_li msc_di msc_ke
attribute [local go_sem] rowCell_some rowFrozen_some rowHas_some rowIn_some rowPart_full rowPart_lit rowPut_full rowPut_lit rowSet_some size_putRow vs_size vs_one wideLine wideSlot run_loadS run_storeS run_appS run_copS run_clrS run_mkS loadW_at storeW_at fit_all fit_le one_int one_bool one_pointer one_slice allOne_list putRow_new ne_size1 ne_size2 ne_size3 ne_size4 zero8_length lines_nil line_eq lit8 slc_size slc_one slc_part slc_in fold_slt fold_slc slc_set_us wideMsg wideHas run_slS msc_size msc_one msc_part msc_in fold_msc msc_putDi msc_putKe msc_putX msc_has ms4_lit
attribute [local simp ↓] heap_drew heap_drewN heap_alloc heap_past heap_setCell heap_putRow
attribute [local simp] rowCell_some rowFrozen_some rowHas_some rowIn_some rowPart_full rowPart_lit rowPut_full rowPut_lit rowSet_some size_putRow vs_size fit_all putRow_new ne_size1 ne_size2 ne_size3 ne_size4 zero8_length slc_size msc_size msc_putDi msc_putKe msc_putX msc_has fit_le


attribute [local go_sem ↓] mlitZ
attribute [local simp] mlitZ
theorem zhead_ok (T : TypeId) (C : Array Value) (q o be : Nat) (A : Option Addr) (cap : Nat) (xs : List Ms) (w : World) (hq : w.heap[q]? = some (.cells C T (0, 0))) (hC : C[o]? = some (.slice A xs.length cap)) (hB : C[o + 1]? = some (.slice none 0 0)) (hl : xs.length ≤ 1000) (hV : Vof 12 50 Ms.enc w q be A cap xs) :
    Calls Tryz.prog 54 #[.pointer (some ⟨q, o, none⟩)] w fun e w' => e = .returned (.tuple #[.agg (msc (headM xs)), .bool (someB xs)]) ∧ Chg [] w w' := by
  have C0 := Lib.hid ((Chg.refl [] w).alloc (.cells (msc msZ) 50))
  have oq := old hq
  have HH := Lib.hid (fun w1 (c : Chg [] w w1) => qhead_ok T C q o be A cap xs w1 (c.keep hq (by simp)) hC hl (hV.keep c (by simp)))
  clear hV hl hC hB
  generalize headM xs = m at HH ⊢
  generalize someB xs = sb at HH ⊢
  go_enter Tryz.func54, Tryz.ntmps54
  try dsimp only [List.append]
  go_wp2_with fail
  refine (HH.out _ C0.out).mono ?_
  rintro e w2 ⟨rfl, c2⟩
  have r2 : w2.heap[w.heap.size]? = some (.cells (msc msZ) 50 (0, 0)) := c2.keep (by simp) (by simp)
  have o2 := old r2
  have CC := Lib.hid (C0.out.trans c2)
  clear C0 c2
  go_wp2_with fail
  refine bodyPost_ret (v := .tuple #[.agg (msc m), .bool sb]) ?_ (by rfl) ?_
  · exact results_msg2 (by rfl) _ _ w.heap.size m (0, 0) (by rfl) (by simp [*]) _ (by rfl)
  · exact ⟨rfl, CC.out.putRow _ _ _ (.inr (Nat.le_refl _))⟩
theorem zpop_ok (T : TypeId) (C : Array Value) (q o be : Nat) (A : Option Addr) (cap : Nat) (xs : List Ms) (w : World) (hq : w.heap[q]? = some (.cells C T (0, 0))) (hC : C[o]? = some (.slice A xs.length cap)) (hB : C[o + 1]? = some (.slice none 0 0)) (hl : xs.length ≤ 1000) (hV : Vof 12 50 Ms.enc w q be A cap xs) :
    Calls Tryz.prog 57 #[.pointer (some ⟨q, o, none⟩)] w (QueTo T C q o be w xs.tail (.tuple #[.agg (msc (headM xs)), .bool (someB xs)])) := by
  have C0 := Lib.hid ((Chg.refl [] w).alloc (.cells (msc msZ) 50))
  have oq := old hq
  have OB := Lib.hid (hV.old oq)
  have HQS : w.heap.size ≠ q := by have := oq.lt; omega
  have HQB : w.heap.size ≠ be := by have := OB.out.lt; omega
  have HH := Lib.hid (fun w1 (c : Chg [] w w1) => qpop_ok T C q o be A cap xs w1 (c.keep hq (by simp)) hC hl (hV.keep c (by simp)))
  have HB := Lib.hid hB
  clear hV hl hC hB
  generalize headM xs = m at HH ⊢
  generalize someB xs = sb at HH ⊢
  go_enter Tryz.func57, Tryz.ntmps57
  try dsimp only [List.append]
  go_wp2_with fail
  refine (HH.out _ C0.out).mono ?_
  rintro e w2 ⟨rfl, be', A', cap', hq2, hV2, c2, hb2⟩
  have r2 : w2.heap[w.heap.size]? = some (.cells (msc msZ) 50 (0, 0)) := c2.keep (by simp) (by simp [HQS, HQB])
  have o2 := old r2
  have oq2 := old hq2
  have hB2 : (C.setIfInBounds o (.slice A' xs.tail.length cap'))[o + 1]? = some (.slice none 0 0) := set_other HB.out (by omega)
  have HQ2 := Lib.hid hq2
  generalize hE : C.setIfInBounds o (.slice A' xs.tail.length cap') = C' at hq2 HQ2 hB2
  have HE := Lib.hid hE
  clear hE
  have HV2 := Lib.hid hV2
  have CC := Lib.hid ((C0.out.mono (l' := [q, be]) (by simp)).trans c2)
  have HSZ := Lib.hid c2.size
  clear C0 c2 hq hV2
  go_wp2_with fail
  refine bodyPost_ret (v := .tuple #[.agg (msc m), .bool sb]) ?_ (by rfl) ?_
  · exact results_msg2 (by rfl) _ _ w.heap.size m (0, 0) (by rfl) (by simp [*]) _ (by rfl)
  · have c9 : Chg [w.heap.size] w2 _ := ((Chg.refl [w.heap.size] w2).alloc (.cells (msc m) 50)).putRow w.heap.size 0 (msc m) (.inl (by simp))
    have h4 := OB.out.lt
    have h5 : be' ≠ w.heap.size := by
      rcases hb2 with h | h
      · omega
      · simp at h; omega
    refine ⟨rfl, be', A', cap', ?_, HV2.out.keep c9 (by simpa using h5), (CC.out.alloc _).putRow _ _ _ (.inr (Nat.le_refl _)), ?_⟩
    · rw [HE.out]
      exact c9.keep HQ2.out (by simpa using Ne.symm HQS)
    · rcases hb2 with h | h
      · exact .inl h
      · simp at h; exact .inr (by omega)


theorem zask_ok (T : TypeId) (C : Array Value) (q o be : Nat) (A : Option Addr) (cap : Nat) (xs : List Ms) (m : Ms) (w : World) (hq : w.heap[q]? = some (.cells C T (0, 0))) (hC : C[o]? = some (.slice A xs.length cap)) (hB : C[o + 1]? = some (.slice none 0 0)) (hl : xs.length < 1000) (hV : Vof 12 50 Ms.enc w q be A cap xs) (hT : Tab w) (hm : mg m = true) :
    Calls Tryz.prog 143 #[.pointer (some ⟨q, o, none⟩), .agg (msc m)] w (QueTo T C q o be w (xs ++ [m]) (.int .i64 0)) := by
  have C0 := Lib.hid ((Chg.refl [] w).alloc (.cells (msc m) 50))
  have r0 : (w.alloc (.cells (msc m) 50)).heap[w.heap.size]? = some (.cells (msc m) 50 (0, 0)) := by simp
  have HH := Lib.hid (fun w1 (c : Chg [] w w1) => qpush_ok T C q o be A cap xs m w1 (c.keep hq (by simp)) hC hl (hV.keep c (by simp)) (hT.keep c (by simp)) hm)
  have oq := old hq
  have OB := hV.old oq
  have NX := Lib.hid (show w.heap.size ∉ [q, be] by have h1 := oq.lt; have h2 := OB.lt; simp; omega)
  clear hV hl hC hB hT hm hq oq OB
  go_enter Tryz.func143, Tryz.ntmps143
  try dsimp only [List.append]
  go_wp2_with fail
  generalize w.alloc (.cells (msc m) 50) = w1 at r0 C0 ⊢
  go_region_held3 (fun w' => w'.heap[w.heap.size]? = some (.cells (msc m) 50 (0, 0))) (first | exact c2.keep r0 NX.out | exact r0)
    (first | (go_at_call 101; refine (HH.out _ C0.out.drew).mono ?_; rintro e w' ⟨rfl, be', A', cap', h1, h2, c2, h3⟩))
  go_wp2_with fail
  go_ret
  refine ⟨rfl, be', A', cap', h1, h2, (C0.out.drew.mono (l' := [q, be]) (by simp)).trans c2, ?_⟩
  have := C0.out.size
  rcases h3 with h | h
  · exact .inl h
  · exact .inr (Nat.le_trans this h)

section
variable {P : Program} {t ty e : TypeId} {k bytes : Nat} {z : Value} {α : Type} {enc : α → List Value}
end
end Go.Proofs.YtcjoinhngdfdmaaGreatDoor
end
section
namespace Go.Proofs.YtcjoinhngdfdmaaGreatDoor
open Go.RowKit
set_option linter.unusedVariables false
attribute [local go_sem ↓] append_appS copy_copS clear_clrS make_mkS cell_row frozen_row loadLine storeLine loadEnt storeEnt heap_drew heap_drewN heap_alloc heap_past heap_setCell heap_putRow vs_get entc_pos
attribute [local go_sem] rowCell_some rowFrozen_some rowHas_some rowIn_some rowPart_full rowPart_lit rowPut_full rowPut_lit rowSet_some size_putRow vs_size vs_one wideLine wideEnt run_loadS run_storeS run_appS run_copS run_clrS run_mkS loadW_at storeW_at fit_all fit_le one_int one_bool one_pointer one_slice allOne_list putRow_new ne_size1 ne_size2 ne_size3 ne_size4 zero8_length lines_nil line_eq lit8 entc_size entc_one entc_part entc_in entc_made fold_ent fold_entc
attribute [local simp ↓] heap_drew heap_drewN heap_alloc heap_past heap_setCell heap_putRow
attribute [local simp] rowCell_some rowFrozen_some rowHas_some rowIn_some rowPart_full rowPart_lit rowPut_full rowPut_lit rowSet_some size_putRow vs_size fit_all putRow_new ne_size1 ne_size2 ne_size3 ne_size4 zero8_length entc_size


/-! ### Read -/
/-- Behind a reading: the device has the same lines. -/
def QRead (w : World) (g b n v : Nat) (xs : List Int) (l : List Int) (er : Int) (e : Ending) (w' : World) : Prop :=
  e = .returned (.tuple #[.agg (vs l), .int .i64 er]) ∧ Chg [g] w w' ∧ Dev w' g b n v xs
theorem qread_ok (q be g b n v room : Nat) (es : List Ent) (xs : List Int) (i : Nat) (w : World) (hq : Que w q be g n room es) (hd : Dev w g b n v xs) (hi : i < n) :
    Calls Tryz.prog 99 #[.pointer (some ⟨q, 0, none⟩), .int .i64 i] w (QRead w g b n v xs (ln (over xs es) i) 0) := by
  have HQ := Lib.hid hq
  have hle : es.length ≤ 16 := by have := hq.2.1; have := hq.2.2.2.1; omega
  obtain ⟨⟨A, cap, hq, hv⟩, _, _, _, _, hn64, hlie⟩ := hq
  have HLIE := Lib.hid hlie
  have HX := Lib.hid hd.2.2.1
  have c1 := (Chg.refl [] w).alloc (.cells (vs zero8) 48)
  have HG := Lib.hid (show g < w.heap.size from (old hd.1.choose_spec.choose_spec).lt)
  have HD := Lib.hid (hd.keep c1 (by simp) (by simp))
  have HD0 := Lib.hid hd
  have HV := Lib.hid hv
  have HW := Lib.hid c1
  have oq := old hq
  have obe := (HQ.out.olde)
  clear hv hd hlie c1
  go_enter Tryz.func99, Tryz.ntmps99
  go_wp2
  go_loop [6] (fun x => ∃ (k : Nat) (z : Int), k ≤ es.length ∧ z = (k : Int) - 1 ∧ x = .int .i64 z ∧ ∀ y ∈ es.drop k, y.pos ≠ i) (fun x => (intOf x + 1).toNat)
  case atStart => exact ⟨es.length, _, by omega, rfl, rfl, by simp⟩
  case round =>
    obtain ⟨k, z, hk, hz, rfl, hno⟩ := hrel
    have HNO := Lib.hid hno
    clear hno
    rcases k with _ | j
    · obtain rfl : z = -1 := by omega
      clear hz
      go_wp2_with fail
      refine (read_ok g b n v i xs _ HD.out hi).mono ?_
      rintro e w2 ⟨rfl, c2, d2⟩
      have hln : ln (over xs es) i = ln xs i := ln_over_none es xs HX.out HLIE.out (by simpa using HNO.out)
      have hf := fit_line HX.out hi
      have hl := ln_length xs i hf
      have hb2 := c2.keep (k := w.heap.size) (x := .cells (vs zero8) 48 (0, 0)) (by simp) (by have := HG.out; simp; omega)
      have ob2 := old hb2
      have D2 := Lib.hid d2
      have C2 := Lib.hid ((HW.out.mono (l' := [g]) (by simp)).trans c2)
      have HLN := Lib.hid hln
      clear d2 c2 hf hln
      go_wp2
      refine bodyPost_ret (v := .tuple #[.agg (vs (ln xs i)), .int .i64 0]) ?_ (by rfl) ?_
      · exact results_line2 (by rfl) _ _ w.heap.size (ln xs i) (0, 0) (by rfl) (by simp [*]) hl _ (by rfl)
      · rw [HLN.out]
        exact ⟨rfl, C2.out.putRow _ _ _ (.inr (Nat.le_refl _)), D2.out.keep ((Chg.refl [w.heap.size] w2).putRow _ _ _ (.inl (by simp))) (by have := HG.out; simp; omega) (by have := (old HD0.out.2.1).lt; simp; omega)⟩
    · obtain rfl : z = (j : Int) := by omega
      clear hz
      have hlt : j < es.length := hk
      obtain ⟨e, he⟩ : ∃ e, es[j]? = some e := ⟨es[j], List.getElem?_eq_getElem hlt⟩
      obtain ⟨_, rfl, r, hbe, _⟩ := HV.out.there (by omega)
      have g1 : (j : Int) < (es.length : Int) := by omega
      have g0 : (0 : Int) ≤ (j : Int) := by omega
      have rc := ent_cell he r
      by_cases hei : e.pos = i
      · subst hei
        have t1 : (e.pos == e.pos) = true := by simp
        have rp := ent_line he r 243 (0, 0)
        have ri := ent_lineIn he r 243 (0, 0)
        have hl := e.h
        have hln := Lib.hid (ln_over_at xs HX.out HLIE.out he HNO.out)
        clear he hk
        go_wp2
        refine bodyPost_ret (v := .tuple #[.agg (vs e.l), .int .i64 0]) ?_ (by rfl) ?_
        · exact results_line2 (by rfl) _ _ w.heap.size e.l (0, 0) (by rfl) (by simp [*]) hl _ (by rfl)
        · rw [hln.out]
          exact ⟨rfl, ((Chg.refl _ _).alloc _), HD0.out.keep ((Chg.refl [] w).alloc _) (by simp) (by simp)⟩
      · have t1 : (e.pos == i) = false := by simpa using hei
        have HN2 := Lib.hid (drop_all he hei HNO.out)
        clear he
        go_wp2
        go_round
        case rel => exact ⟨j, _, by omega, rfl, rfl, HN2.out⟩
        case measure => simp [intOf]
end Go.Proofs.YtcjoinhngdfdmaaGreatDoor
end
section
namespace Go.Proofs.YtcjoinhngdfdmaaGreatDoor
open Go.RowKit
set_option linter.unusedVariables false
set_option maxRecDepth 100000
attribute [local go_sem ↓] append_appS copy_copS clear_clrS make_mkS cell_row frozen_row loadLine storeLine loadEnt storeEnt heap_drew heap_drewN heap_alloc heap_past heap_setCell heap_putRow vs_get entc_pos
attribute [local go_sem] rowCell_some rowFrozen_some rowHas_some rowIn_some rowPart_full rowPart_lit rowPut_full rowPut_lit rowSet_some size_putRow vs_size vs_one wideLine wideEnt run_loadS run_storeS run_appS run_copS run_clrS run_mkS loadW_at storeW_at fit_all fit_le one_int one_bool one_pointer one_slice allOne_list putRow_new ne_size1 ne_size2 ne_size3 ne_size4 zero8_length lines_nil line_eq lit8 entc_size entc_one entc_part entc_in entc_made fold_ent fold_entc fold_vs
attribute [local simp ↓] heap_drew heap_drewN heap_alloc heap_past heap_setCell heap_putRow
attribute [local simp] rowCell_some rowFrozen_some rowHas_some rowIn_some rowPart_full rowPart_lit rowPut_full rowPut_lit rowSet_some size_putRow vs_size fit_all putRow_new ne_size1 ne_size2 ne_size3 ne_size4 zero8_length entc_size


/-! ### A queue with its device -/
def SysTo (W w : World) (q be g b n v room : Nat) (es : List Ent) (xs : List Int) (val : Value) (e : Ending) (w' : World) : Prop :=
  e = .returned val ∧ ∃ be', Sys W w' q be' g b n v room es xs ∧ Chg [q, be, g, b] w w' ∧ (be' = be ∨ w.heap.size ≤ be')
section
variable {W w : World} {q be g b n v room : Nat} {es : List Ent} {xs : List Int} (h : Sys W w q be g b n v room es xs)
include h
theorem Sys.new4 {k : Nat} (hk : w.heap.size ≤ k) : k ∉ [q, be, g, b] := by
  have h1 := h.2.1.oldq.lt
  have h2 := h.2.1.olde.lt
  have h3 := h.2.2.1.oldg
  have h4 := h.2.2.1.oldb
  simp; omega
theorem sys_read (i : Nat) (hi : i < n) : Calls Tryz.prog 99 #[.pointer (some ⟨q, 0, none⟩), .int .i64 i] w (SysTo W w q be g b n v room es xs (.tuple #[.agg (vs (ln (Go.Proofs.YtcjoinhngdfdmaaGreatDoor.over xs es) i)), .int .i64 0])) :=
  (qread_ok q be g b n v room es xs i w h.2.1 h.2.2.1 hi).mono fun e w' ⟨he, hc, hd⟩ => by
    obtain ⟨a1, a2, a3, a4⟩ := h.2.2.2.1
    exact ⟨he, be, ⟨h.1.trans' hc (by have := h.2.2.2.2; simp; omega), h.2.1.keep hc (by simp; omega) (by simp; omega), hd, h.2.2.2⟩, hc.mono (by simp), .inl rfl⟩
end
end Go.Proofs.YtcjoinhngdfdmaaGreatDoor
end
section
namespace Go.Proofs.YtcjoinhngdfdmaaGreatDoor
open Go.RowKit
set_option linter.unusedVariables false
set_option maxHeartbeats 1000000
attribute [local go_sem ↓] append_appS copy_copS clear_clrS make_mkS cell_row frozen_row loadLine storeLine loadSlot storeSlot heap_drew heap_drewN heap_alloc heap_past heap_setCell heap_putRow vs_get slc_st slc_li slc_us slice_slS loadMsg storeMsg loadHas storeHas msc_kd msc_li msc_di msc_ke
attribute [local go_sem] rowCell_some rowFrozen_some rowHas_some rowIn_some rowPart_full rowPart_lit rowPut_full rowPut_lit rowSet_some size_putRow vs_size vs_one wideLine wideSlot run_loadS run_storeS run_appS run_copS run_clrS run_mkS loadW_at storeW_at fit_all fit_le one_int one_bool one_pointer one_slice allOne_list putRow_new ne_size1 ne_size2 ne_size3 ne_size4 zero8_length lines_nil line_eq lit8 slc_size slc_one slc_part slc_in fold_slt fold_slc slc_set_us wideMsg wideHas run_slS msc_size msc_one msc_part msc_in fold_msc msc_putDi msc_putKe msc_putX msc_has ms4_lit ms4_k ms4_l ms4_e
attribute [local simp ↓] heap_drew heap_drewN heap_alloc heap_past heap_setCell heap_putRow
attribute [local simp] rowCell_some rowFrozen_some rowHas_some rowIn_some rowPart_full rowPart_lit rowPut_full rowPut_lit rowSet_some size_putRow vs_size fit_all putRow_new ne_size1 ne_size2 ne_size3 ne_size4 zero8_length slc_size msc_size msc_putDi msc_putKe msc_putX msc_has fit_le ms4_k ms4_l ms4_e

theorem agen_calls1 {P : Program} {fn : FuncId} {vs : Array Value} {K : Ending → World → Prop} {w W : World} {b1 : Nat} {x1 : Obj} (hc : Chg [] w W) (h1 : W.heap[b1]? = some x1)
    (h : ∀ W', Chg [] w W' → W'.heap[b1]? = some x1 → Calls P fn vs W' K) : Calls P fn vs W K := h W hc h1
attribute [local go_sem] aputRow_newB aputRow_newC asize11
attribute [local simp] aputRow_newB aputRow_newC
/-! ### Messages, words, that lie in a cell -/
theorem results_ln1 {fn : Func} {p : Tmp} (h : fn.results = #[.cell p 48]) (tmps : Array Value) (w : World) (b : Nat) (l : List Int) (hl : l.length = 8) (fr : Nat × Nat)
    (hp : tmps.getD p undef = .pointer (some ⟨b, 0, none⟩)) (hb : w.heap[b]? = some (.cells (vs l) 48 fr)) :
    (results fn tmps).run Tryz.prog w = .ok (.agg (vs l)) w := by
  have hp' : tmps[p]?.getD undef = .pointer (some ⟨b, 0, none⟩) := by simpa using hp
  have := run_loadVar_row (P := Tryz.prog) w b 48 48 (vs l) fr _ hb Tryz.underlying48 rfl (by rw [vs_size, hl]; kernel_rfl)
  simp [results, h, hp', asAddr, this]
theorem gwords_any (m : Ms) (x : Slt) (nx : Int) (w : World) : Calls Tryz.prog 107 #[.agg (msc m), .agg (slc x), .int .i64 nx] w fun e w' => e = .returned (.agg (vs (wordsL m x nx))) ∧ Chg [] w w' := by
  have hx8 := x.h
  have hm8 := m.h
  have q : ((nx == 5) = true ∨ ((nx == 5) = false ∧ (nx == 8) = true)) ∨ ((nx == 5) = false ∧ (nx == 8) = false) := by
    cases (nx == 5) <;> cases (nx == 8) <;> simp
  rcases q with q | ⟨q1, q2⟩
  · have e1 : wordsL m x nx = zl8 := by
      unfold wordsL
      rw [if_pos (by rcases q with h | ⟨_, h⟩; exact .inl (by simpa using h); exact .inr (by simpa using h))]
    rw [e1]
    clear e1
    rcases q with q1 | ⟨q1, q2⟩
    all_goals
      go_enter Tryz.func107, Tryz.ntmps107
      try dsimp only [List.append]
      go_wp2_with fail
      refine bodyPost_ret (results_ln1 (by rfl) _ _ (w.heap.size + 2) (zl8) rfl (0, 0) (by rfl) (by simp (maxDischargeDepth := 8) [zl8]; try rfl)) (by rfl) ?_
      exact ⟨rfl, by (repeat' (first | with_reducible exact Chg.refl _ _ | with_reducible assumption | with_reducible refine Chg.drew ?_ | with_reducible refine Chg.drewN ?_ _ | with_reducible refine Chg.alloc ?_ _ | with_reducible refine Chg.putRow ?_ _ _ _ (.inr ?_) | with_reducible refine Chg.setCell ?_ _ _ _ (.inr ?_)  | (show _ ≤ _; first | exact Nat.le_refl _ | omega | (simp; done))))⟩
  · have hn : ¬ (nx = 5 ∨ nx = 8) := by simp at q1 q2; omega
    cases q3 : (m.kd == 13)
    · rw [show wordsL m x nx = m.l by unfold wordsL; rw [if_neg hn, if_neg (by simpa using q3)]]
      clear hn
      go_enter Tryz.func107, Tryz.ntmps107
      try dsimp only [List.append]
      go_wp2_with fail
      refine bodyPost_ret (results_ln1 (by rfl) _ _ (w.heap.size + 2) (m.l) m.h (0, 0) (by rfl) (by simp (maxDischargeDepth := 8); try rfl)) (by rfl) ?_
      exact ⟨rfl, by (repeat' (first | with_reducible exact Chg.refl _ _ | with_reducible assumption | with_reducible refine Chg.drew ?_ | with_reducible refine Chg.drewN ?_ _ | with_reducible refine Chg.alloc ?_ _ | with_reducible refine Chg.putRow ?_ _ _ _ (.inr ?_) | with_reducible refine Chg.setCell ?_ _ _ _ (.inr ?_)  | (show _ ≤ _; first | exact Nat.le_refl _ | omega | (simp; done))))⟩
    · rw [show wordsL m x nx = x.l by unfold wordsL; rw [if_neg hn, if_pos (by simpa using q3)]]
      clear hn
      go_enter Tryz.func107, Tryz.ntmps107
      try dsimp only [List.append]
      go_wp2_with fail
      refine bodyPost_ret (results_ln1 (by rfl) _ _ (w.heap.size + 2) (x.l) x.h (0, 0) (by rfl) (by simp (maxDischargeDepth := 8); try rfl)) (by rfl) ?_
      exact ⟨rfl, by (repeat' (first | with_reducible exact Chg.refl _ _ | with_reducible assumption | with_reducible refine Chg.drew ?_ | with_reducible refine Chg.drewN ?_ _ | with_reducible refine Chg.alloc ?_ _ | with_reducible refine Chg.putRow ?_ _ _ _ (.inr ?_) | with_reducible refine Chg.setCell ?_ _ _ _ (.inr ?_)  | (show _ ≤ _; first | exact Nat.le_refl _ | omega | (simp; done))))⟩

theorem told_ke (kd : Int) (x : Slt) (b : Bool) : (toldM kd x false).putKe b = toldM kd x b := by
  unfold toldM
  split <;> rfl
theorem ganswers_any (kd : Int) (x : Slt) (nx : Int) (w : World) : Calls Tryz.prog 108 #[.int .i64 kd, .agg (slc x), .int .i64 nx] w (MsTo w (answersL kd x nx)) := by
  have hx8 := x.h
  have rX : (w.alloc (.cells (slc x) 205 (0, 0))).heap[w.heap.size]? = some (.cells (slc x) 205 (0, 0)) := by simp
  cases q1 : (kd == 12)
  · cases q2 : (kd == 13)
    · rw [show answersL kd x nx = [] by unfold answersL; rw [if_neg (by simpa using q1), if_neg (by simpa using q2)]]
      go_enter Tryz.func108, Tryz.ntmps108
      try dsimp only [List.append]
      go_wp2_with fail
      go_ret
      exact MsTo.nil (by (repeat' (first | with_reducible exact Chg.refl _ _ | with_reducible assumption | with_reducible refine Chg.drew ?_ | with_reducible refine Chg.drewN ?_ _ | with_reducible refine Chg.alloc ?_ _ | with_reducible refine Chg.putRow ?_ _ _ _ (.inr ?_) | with_reducible refine Chg.setCell ?_ _ _ _ (.inr ?_)  | (show _ ≤ _; first | exact Nat.le_refl _ | omega | (simp; done)))))
    · rw [show answersL kd x nx = [(toldM 7 x false).putKe (nx == 1)] by unfold answersL; rw [if_neg (by simpa using q1), if_pos (by simpa using q2), told_ke]]
      go_enter Tryz.func108, Tryz.ntmps108
      try dsimp only [List.append]
      go_wp2_with fail
      refine (gtold_any 7 x _).mono ?_
      rintro e w2 ⟨rfl, c2⟩
      have C2 : Chg [] w w2 := ((Chg.refl [] w).alloc _).trans c2
      go_wp2_with fail
      go_ret
      exact MsTo.at (C2.alloc (.cells (msc ((toldM 7 x false).putKe (nx == 1))) 50)) _ (by simp)
  · rw [show answersL kd x nx = [toldM 6 x false] by unfold answersL; rw [if_pos (by simpa using q1)]]
    go_enter Tryz.func108, Tryz.ntmps108
    try dsimp only [List.append]
    go_wp2_with fail
    refine (gtold_any 6 x _).mono ?_
    rintro e w2 ⟨rfl, c2⟩
    have C2 : Chg [] w w2 := ((Chg.refl [] w).alloc _).trans c2
    go_wp2_with fail
    go_ret
    exact MsTo.one C2 _
end Go.Proofs.YtcjoinhngdfdmaaGreatDoor
end
section
namespace Go.Proofs.YtcjoinhngdfdmaaGreatDoor
open Go.RowKit
set_option linter.unusedVariables false
set_option maxHeartbeats 1000000
attribute [local go_sem ↓] append_appS copy_copS clear_clrS make_mkS cell_row frozen_row loadLine storeLine loadSlot storeSlot heap_drew heap_drewN heap_alloc heap_past heap_setCell heap_putRow vs_get slc_st slc_li slc_us slice_slS loadMsg storeMsg loadHas storeHas msc_kd msc_li msc_di msc_ke
attribute [local go_sem] rowCell_some rowFrozen_some rowHas_some rowIn_some rowPart_full rowPart_lit rowPut_full rowPut_lit rowSet_some size_putRow vs_size vs_one wideLine wideSlot run_loadS run_storeS run_appS run_copS run_clrS run_mkS loadW_at storeW_at fit_all fit_le one_int one_bool one_pointer one_slice allOne_list putRow_new ne_size1 ne_size2 ne_size3 ne_size4 zero8_length lines_nil line_eq lit8 slc_size slc_one slc_part slc_in fold_slt fold_slc slc_set_us wideMsg wideHas run_slS msc_size msc_one msc_part msc_in fold_msc msc_putDi msc_putKe msc_putX msc_has ms4_lit ms4_k ms4_l ms4_e
attribute [local simp ↓] heap_drew heap_drewN heap_alloc heap_past heap_setCell heap_putRow
attribute [local simp] rowCell_some rowFrozen_some rowHas_some rowIn_some rowPart_full rowPart_lit rowPut_full rowPut_lit rowSet_some size_putRow vs_size fit_all putRow_new ne_size1 ne_size2 ne_size3 ne_size4 zero8_length slc_size msc_size msc_putDi msc_putKe msc_putX msc_has fit_le ms4_k ms4_l ms4_e


/-! ### An agent whose memory is all new to the world W -/
section
variable {W w w' : World} {g a b S N : Nat} {s s' : Sta} (h : Agt W w g a b S N s)
include h
end
section
variable {W w : World} {g a b S N : Nat} {s : Sta} (h : Agt W w g a b S N s)
include h
theorem gdrop_any (li : Int) : Calls Tryz.prog 105 #[.pointer (some ⟨a, 0, none⟩), .int .i64 li] w
    fun e w' => e = .returned (.bool (dropVal s.1 li)) ∧ Agt W w' g a b S N (dropS s li) ∧ Chg [a, b] w w' :=
  h.calls (h.sane.drop li) (Int.le_trans h.pos dropS_u.1) (sys_drop h.1 li)
end
end Go.Proofs.YtcjoinhngdfdmaaGreatDoor
end
