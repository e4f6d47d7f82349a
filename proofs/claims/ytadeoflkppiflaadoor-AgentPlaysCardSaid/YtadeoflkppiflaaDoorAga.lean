/- Aga: walked. No condition. -/
import Derived.Test.YtadeoflkppiflaaDoorAgm
import Derived.Test.YtadeoflkppiflaaDoorArrw
import Derived.Test.YtadeoflkppiflaaDoorMsgr
import Derived.BigQuiet
import Derived.Deep.RegionWith
import Derived.Deep.RegionHeld3
import Derived.Deep.QuietTactic
import Derived.Deep.Cut
import Derived.Deep.CutBlock
import Derived.Deep.CutRange
import Derived.Deep.DeepCutAuto
namespace Go.Proofs.YtadeoflkppiflaaDoor
open Go.RowKit
set_option linter.unusedVariables false
set_option maxHeartbeats 1000000
attribute [local go_sem ↓] append_appS copy_copS clear_clrS make_mkS cell_row frozen_row loadLine storeLine loadSlot storeSlot heap_drew heap_drewN heap_alloc heap_past heap_setCell heap_putRow vs_get slc_st slc_li slc_us slice_slS loadMsg storeMsg loadHas storeHas msc_kd msc_li msc_di msc_ke
attribute [local go_sem] rowCell_some rowFrozen_some rowHas_some rowIn_some rowPart_full rowPart_lit rowPut_full rowPut_lit rowSet_some size_putRow vs_size vs_one wideLine wideSlot run_loadS run_storeS run_appS run_copS run_clrS run_mkS loadW_at storeW_at fit_all fit_le one_int one_bool one_pointer one_slice allOne_list putRow_new ne_size1 ne_size2 ne_size3 ne_size4 zero8_length line_eq lit8 slc_size slc_one slc_part slc_in fold_slt fold_slc slc_set_us wideMsg wideHas run_slS msc_size msc_one msc_part msc_in fold_msc msc_putDi msc_putKe msc_putX msc_has ms4_lit ms4_k ms4_l ms4_e
attribute [local simp ↓] heap_drew heap_drewN heap_alloc heap_past heap_setCell heap_putRow
attribute [local simp] rowCell_some rowFrozen_some rowHas_some rowIn_some rowPart_full rowPart_lit rowPut_full rowPut_lit rowSet_some size_putRow vs_size fit_all putRow_new ne_size1 ne_size2 ne_size3 ne_size4 zero8_length slc_size msc_size msc_putDi msc_putKe msc_putX msc_has fit_le ms4_k ms4_l ms4_e

theorem gen_world1 {P : Program} {code : Code} {K : Exit → Act → World → Prop} {a : Act} {w W : World} {b1 : Nat} {x1 : Obj} (hc : Chg [] w W) (h1 : W.heap[b1]? = some x1)
    (h : ∀ W', Chg [] w W' → W'.heap[b1]? = some x1 → code.wp P K a W') : code.wp P K a W := h W hc h1
theorem gen_calls1 {P : Program} {fn : FuncId} {vs : Array Value} {K : Ending → World → Prop} {w W : World} {b1 : Nat} {x1 : Obj} (hc : Chg [] w W) (h1 : W.heap[b1]? = some x1)
    (h : ∀ W', Chg [] w W' → W'.heap[b1]? = some x1 → Calls P fn vs W' K) : Calls P fn vs W K := h W hc h1
theorem gen_world2 {P : Program} {code : Code} {K : Exit → Act → World → Prop} {a : Act} {w W : World} {b1 b2 : Nat} {x1 x2 : Obj} (hc : Chg [] w W) (h1 : W.heap[b1]? = some x1) (h2 : W.heap[b2]? = some x2)
    (h : ∀ W', Chg [] w W' → W'.heap[b1]? = some x1 → W'.heap[b2]? = some x2 → code.wp P K a W') : code.wp P K a W := h W hc h1 h2
theorem gen_calls2 {P : Program} {fn : FuncId} {vs : Array Value} {K : Ending → World → Prop} {w W : World} {b1 b2 : Nat} {x1 x2 : Obj} (hc : Chg [] w W) (h1 : W.heap[b1]? = some x1) (h2 : W.heap[b2]? = some x2)
    (h : ∀ W', Chg [] w W' → W'.heap[b1]? = some x1 → W'.heap[b2]? = some x2 → Calls P fn vs W' K) : Calls P fn vs W K := h W hc h1 h2
theorem gen_world3 {P : Program} {code : Code} {K : Exit → Act → World → Prop} {a : Act} {w W : World} {b1 b2 b3 : Nat} {x1 x2 x3 : Obj} (hc : Chg [] w W) (h1 : W.heap[b1]? = some x1) (h2 : W.heap[b2]? = some x2) (h3 : W.heap[b3]? = some x3)
    (h : ∀ W', Chg [] w W' → W'.heap[b1]? = some x1 → W'.heap[b2]? = some x2 → W'.heap[b3]? = some x3 → code.wp P K a W') : code.wp P K a W := h W hc h1 h2 h3
theorem gen_calls3 {P : Program} {fn : FuncId} {vs : Array Value} {K : Ending → World → Prop} {w W : World} {b1 b2 b3 : Nat} {x1 x2 x3 : Obj} (hc : Chg [] w W) (h1 : W.heap[b1]? = some x1) (h2 : W.heap[b2]? = some x2) (h3 : W.heap[b3]? = some x3)
    (h : ∀ W', Chg [] w W' → W'.heap[b1]? = some x1 → W'.heap[b2]? = some x2 → W'.heap[b3]? = some x3 → Calls P fn vs W' K) : Calls P fn vs W K := h W hc h1 h2 h3
theorem gen_world4 {P : Program} {code : Code} {K : Exit → Act → World → Prop} {a : Act} {w W : World} {b1 b2 b3 b4 : Nat} {x1 x2 x3 x4 : Obj} (hc : Chg [] w W) (h1 : W.heap[b1]? = some x1) (h2 : W.heap[b2]? = some x2) (h3 : W.heap[b3]? = some x3) (h4 : W.heap[b4]? = some x4)
    (h : ∀ W', Chg [] w W' → W'.heap[b1]? = some x1 → W'.heap[b2]? = some x2 → W'.heap[b3]? = some x3 → W'.heap[b4]? = some x4 → code.wp P K a W') : code.wp P K a W := h W hc h1 h2 h3 h4
theorem gen_calls4 {P : Program} {fn : FuncId} {vs : Array Value} {K : Ending → World → Prop} {w W : World} {b1 b2 b3 b4 : Nat} {x1 x2 x3 x4 : Obj} (hc : Chg [] w W) (h1 : W.heap[b1]? = some x1) (h2 : W.heap[b2]? = some x2) (h3 : W.heap[b3]? = some x3) (h4 : W.heap[b4]? = some x4)
    (h : ∀ W', Chg [] w W' → W'.heap[b1]? = some x1 → W'.heap[b2]? = some x2 → W'.heap[b3]? = some x3 → W'.heap[b4]? = some x4 → Calls P fn vs W' K) : Calls P fn vs W K := h W hc h1 h2 h3 h4
theorem gen_world5 {P : Program} {code : Code} {K : Exit → Act → World → Prop} {a : Act} {w W : World} {b1 b2 b3 b4 b5 : Nat} {x1 x2 x3 x4 x5 : Obj} (hc : Chg [] w W) (h1 : W.heap[b1]? = some x1) (h2 : W.heap[b2]? = some x2) (h3 : W.heap[b3]? = some x3) (h4 : W.heap[b4]? = some x4) (h5 : W.heap[b5]? = some x5)
    (h : ∀ W', Chg [] w W' → W'.heap[b1]? = some x1 → W'.heap[b2]? = some x2 → W'.heap[b3]? = some x3 → W'.heap[b4]? = some x4 → W'.heap[b5]? = some x5 → code.wp P K a W') : code.wp P K a W := h W hc h1 h2 h3 h4 h5
theorem gen_calls5 {P : Program} {fn : FuncId} {vs : Array Value} {K : Ending → World → Prop} {w W : World} {b1 b2 b3 b4 b5 : Nat} {x1 x2 x3 x4 x5 : Obj} (hc : Chg [] w W) (h1 : W.heap[b1]? = some x1) (h2 : W.heap[b2]? = some x2) (h3 : W.heap[b3]? = some x3) (h4 : W.heap[b4]? = some x4) (h5 : W.heap[b5]? = some x5)
    (h : ∀ W', Chg [] w W' → W'.heap[b1]? = some x1 → W'.heap[b2]? = some x2 → W'.heap[b3]? = some x3 → W'.heap[b4]? = some x4 → W'.heap[b5]? = some x5 → Calls P fn vs W' K) : Calls P fn vs W K := h W hc h1 h2 h3 h4 h5
/-- A new block behind others, all of which is replaced. -/
theorem putRow_newB (w : World) (o : Obj) (c cs : Array Value) (t : TypeId) (h : cs.size = c.size) : putRow ((w.alloc o).alloc (.cells c t)) (w.heap.size + 1) 0 cs = (w.alloc o).alloc (.cells cs t) := by
  have := putRow_new (w.alloc o) c cs t h
  rwa [show (w.alloc o).heap.size = w.heap.size + 1 by simp] at this
theorem putRow_newC (w : World) (o o' : Obj) (c cs : Array Value) (t : TypeId) (h : cs.size = c.size) : putRow (((w.alloc o).alloc o').alloc (.cells c t)) (w.heap.size + 2) 0 cs = ((w.alloc o).alloc o').alloc (.cells cs t) := by
  have := putRow_newB (w.alloc o) o' c cs t h
  rwa [show (w.alloc o).heap.size = w.heap.size + 1 by simp] at this
theorem size11 (n : Nat) : n + 1 + 1 = n + 2 := rfl
theorem quiet_same' {P : Program} {f : FuncId} {args : Array Value} {w : World} {n : Nat} {v : Value} (h : Calls P f args (w.drewN n) fun e w' => e = .returned v ∧ w.drewN n = w') : Calls P f args (w.drewN n) fun e w'' => e = .returned v ∧ ∃ m, w'' = w.drewN m :=
  h.mono fun _ _ ⟨he, hw⟩ => ⟨he, n, hw.symm⟩
attribute [local go_sem] putRow_newB putRow_newC size11
attribute [local simp] putRow_newB putRow_newC
theorem gwrite_any (st : Int) (w : World) : Calls Tryd.prog 37 #[.int .i64 st] w fun e w' => e = .returned (.bool (mayWr st)) ∧ w = w' := by
  cases t1 : (st == 2)
  all_goals
    go_enter Tryd.func37, Tryd.ntmps37
    try dsimp only [List.append]
    go_wp2_with fail
    go_ret
    exact ⟨by simp [mayWr, t1], rfl⟩
theorem rest_or (st : Int) : atRest st = (st == 1 || mayWr st) := by
  unfold atRest mayWr
  rw [Bool.eq_iff_iff]
  simp
  omega
theorem grest_any (st : Int) (w : World) : Calls Tryd.prog 54 #[.int .i64 st] w fun e w' => e = .returned (.bool (atRest st)) ∧ w = w' := by
  cases t1 : (st == 1)
  all_goals
    go_enter Tryd.func54, Tryd.ntmps54
    try dsimp only [List.append]
    go_wp2_with (go_at_call 37; refine (gwrite_any _ _).mono ?_; rintro e w' ⟨rfl, rfl⟩)
    go_ret
    exact ⟨by simp [rest_or, mayWr, t1], rfl⟩
theorem grest_at (st : Int) (b : Bool) (h : atRest st = b) (w : World) : Calls Tryd.prog 54 #[.int .i64 st] w fun e w' => e = .returned (.bool b) ∧ w = w' := h ▸ grest_any st w
theorem gwrite_at (st : Int) (b : Bool) (h : mayWr st = b) (w : World) : Calls Tryd.prog 37 #[.int .i64 st] w fun e w' => e = .returned (.bool b) ∧ w = w' := h ▸ gwrite_any st w
theorem gread_any (st : Int) (w : World) : Calls Tryd.prog 30 #[.int .i64 st] w fun e w' => e = .returned (.bool (mayR st)) ∧ w = w' := by
  cases t1 : atRest st
  all_goals
    go_enter Tryd.func30, Tryd.ntmps30
    try dsimp only [List.append]
    go_wp2_with (go_at_call 54; refine (grest_at _ _ t1 _).mono ?_; rintro e w' ⟨rfl, rfl⟩)
    go_ret
    exact ⟨by simp [mayR, t1], rfl⟩
theorem gline_any (li : Int) (w : World) : Calls Tryd.prog 27 #[.int .i64 li] w fun e w' => e = .returned (.bool (isLn li)) ∧ w = w' := by
  cases t1 : decide (0 ≤ li)
  all_goals
    go_enter Tryd.func27, Tryd.ntmps27
    try dsimp only [List.append]
    go_wp2_with fail
    go_ret
    exact ⟨by simp [isLn, t1], rfl⟩
theorem gword_any (li : Int) (w : World) : Calls Tryd.prog 28 #[.int .i64 li] w fun e w' => e = .returned (.bool (isWd li)) ∧ w = w' := by
  cases t1 : decide (0 ≤ li)
  all_goals
    go_enter Tryd.func28, Tryd.ntmps28
    try dsimp only [List.append]
    go_wp2_with fail
    go_ret
    exact ⟨by simp [isWd, t1], rfl⟩
theorem gread_at (st : Int) (b : Bool) (h : mayR st = b) (w : World) : Calls Tryd.prog 30 #[.int .i64 st] w fun e w' => e = .returned (.bool b) ∧ w = w' := h ▸ gread_any st w
theorem gline_at (li : Int) (b : Bool) (h : isLn li = b) (w : World) : Calls Tryd.prog 27 #[.int .i64 li] w fun e w' => e = .returned (.bool b) ∧ w = w' := h ▸ gline_any li w
theorem gword_at (li : Int) (b : Bool) (h : isWd li = b) (w : World) : Calls Tryd.prog 28 #[.int .i64 li] w fun e w' => e = .returned (.bool b) ∧ w = w' := h ▸ gword_any li w
/-! ### Messages, words, that lie in a cell -/
theorem results_ms1 {fn : Func} {p : Tmp} (h : fn.results = #[.cell p 35]) (tmps : Array Value) (w : World) (b : Nat) (x : Ms) (fr : Nat × Nat)
    (hp : tmps.getD p undef = .pointer (some ⟨b, 0, none⟩)) (hb : w.heap[b]? = some (.cells (msc x) 35 fr)) :
    (results fn tmps).run Tryd.prog w = .ok (.agg (msc x)) w := by
  have hp' : tmps[p]?.getD undef = .pointer (some ⟨b, 0, none⟩) := by simpa using hp
  have := run_loadVar_row (P := Tryd.prog) w b 35 35 (msc x) fr _ hb Tryd.underlying35 rfl (by rw [msc_size]; kernel_rfl)
  simp [results, h, hp', asAddr, this]
theorem results_ln1 {fn : Func} {p : Tmp} (h : fn.results = #[.cell p 33]) (tmps : Array Value) (w : World) (b : Nat) (l : List Int) (hl : l.length = 8) (fr : Nat × Nat)
    (hp : tmps.getD p undef = .pointer (some ⟨b, 0, none⟩)) (hb : w.heap[b]? = some (.cells (vs l) 33 fr)) :
    (results fn tmps).run Tryd.prog w = .ok (.agg (vs l)) w := by
  have hp' : tmps[p]?.getD undef = .pointer (some ⟨b, 0, none⟩) := by simpa using hp
  have := run_loadVar_row (P := Tryd.prog) w b 33 33 (vs l) fr _ hb Tryd.underlying33 rfl (by rw [vs_size, hl]; kernel_rfl)
  simp [results, h, hp', asAddr, this]
set_option maxRecDepth 20000 in
theorem gtold_any (kd : Int) (x : Slt) (w : World) : Calls Tryd.prog 65 #[.int .i64 kd, .agg (slc x)] w fun e w' => e = .returned (.agg (msc (toldM kd x false))) ∧ Chg [] w w' := by
  have hx8 := x.h
  have q : (x.st == 3) = true ∨ ((x.st == 3) = false ∧ (x.st == 9) = true) ∨ ((x.st == 3) = false ∧ (x.st == 9) = false) := by
    cases (x.st == 3) <;> cases (x.st == 9) <;> simp
  have yes : x.st = 3 ∨ x.st = 9 → toldM kd x false = ((ms4 kd x.li false false).putDi true).putL x.l x.h := by intro h; unfold toldM; rw [if_pos h]; rfl
  have no : (x.st == 3) = false → (x.st == 9) = false → toldM kd x false = ms4 kd x.li false false := by
    intro h1 h2
    unfold toldM
    rw [if_neg (by simp at h1 h2; omega)]
  rcases q with q1 | ⟨q1, q2⟩ | ⟨q1, q2⟩
  · rw [yes (.inl (by simpa using q1))]
    clear yes no
    go_enter Tryd.func65, Tryd.ntmps65
    try dsimp only [List.append]
    go_wp2_with fail
    go_region
    all_goals
      go_wp2_with fail
      refine bodyPost_ret (results_ms1 (by rfl) _ _ (w.heap.size + 1) _ (0, 0) (by rfl) (by simp (maxDischargeDepth := 8) [hx8]; try rfl)) (by rfl) ?_
      exact ⟨rfl, by (repeat' (first | with_reducible exact Chg.refl _ _ | with_reducible assumption | with_reducible refine Chg.drew ?_ | with_reducible refine Chg.drewN ?_ _ | with_reducible refine Chg.alloc ?_ _ | with_reducible refine Chg.putRow ?_ _ _ _ (.inr ?_) | with_reducible refine Chg.setCell ?_ _ _ _ (.inr ?_)  | (show _ ≤ _; first | exact Nat.le_refl _ | omega | (simp; done))))⟩
  · rw [yes (.inr (by simpa using q2))]
    clear yes no
    go_enter Tryd.func65, Tryd.ntmps65
    try dsimp only [List.append]
    go_wp2_with fail
    go_region
    all_goals
      go_wp2_with fail
      refine bodyPost_ret (results_ms1 (by rfl) _ _ (w.heap.size + 1) _ (0, 0) (by rfl) (by simp (maxDischargeDepth := 8) [hx8]; try rfl)) (by rfl) ?_
      exact ⟨rfl, by (repeat' (first | with_reducible exact Chg.refl _ _ | with_reducible assumption | with_reducible refine Chg.drew ?_ | with_reducible refine Chg.drewN ?_ _ | with_reducible refine Chg.alloc ?_ _ | with_reducible refine Chg.putRow ?_ _ _ _ (.inr ?_) | with_reducible refine Chg.setCell ?_ _ _ _ (.inr ?_)  | (show _ ≤ _; first | exact Nat.le_refl _ | omega | (simp; done))))⟩
  · rw [no q1 q2]
    clear yes no
    go_enter Tryd.func65, Tryd.ntmps65
    try dsimp only [List.append]
    go_wp2_with fail
    all_goals
      go_wp2_with fail
      refine bodyPost_ret (results_ms1 (by rfl) _ _ (w.heap.size + 1) _ (0, 0) (by rfl) (by simp; try rfl)) (by rfl) ?_
      exact ⟨rfl, by (repeat' (first | with_reducible exact Chg.refl _ _ | with_reducible assumption | with_reducible refine Chg.drew ?_ | with_reducible refine Chg.drewN ?_ _ | with_reducible refine Chg.alloc ?_ _ | with_reducible refine Chg.putRow ?_ _ _ _ (.inr ?_) | with_reducible refine Chg.setCell ?_ _ _ _ (.inr ?_)  | (show _ ≤ _; first | exact Nat.le_refl _ | omega | (simp; done))))⟩

/-- What is told, in memory of its own. -/
def Told (w w' : World) (A : Option Addr) (ms : List Ms) : Prop := Sl w' 12 A ms.length (cat Ms.enc ms) ∧ ∀ x, A = some x → w.heap.size ≤ x.block
theorem Told.nil (w w' : World) : Told w w' none [] := ⟨⟨rfl, .inl rfl⟩, by simp⟩
theorem Told.keep {w w' w'' : World} {A : Option Addr} {ms : List Ms} {l : List Nat} (h : Told w w' A ms) (hc : Chg l w' w'') (hl : ∀ x ∈ l, x < w.heap.size) : Told w w'' A ms :=
  ⟨h.1.chg hc (by intro a ha hm; have := h.2 a ha; have := hl _ hm; omega), h.2⟩
theorem Told.from {w0 w w' : World} {A : Option Addr} {ms : List Ms} (h : Told w w' A ms) (hs : w0.heap.size ≤ w.heap.size) : Told w0 w' A ms := ⟨h.1, fun x hx => Nat.le_trans hs (h.2 x hx)⟩
theorem Told.one (w : World) (m : Ms) : Told w (w.alloc (.cells (msc m) 35)) (some ⟨w.heap.size, 0, none⟩) [m] :=
  ⟨⟨by rw [cat_length Ms.len], .inr ⟨w.heap.size, 0, msc m, 35, (0, 0), rfl, by simp, by rw [cat_one]; simp [msc, Ms.len, List.take_of_length_le]⟩⟩, by rintro x hx; cases hx; exact Nat.le_refl _⟩
def MsTo (w : World) (ms : List Ms) : Ending → World → Prop := fun e w' => ∃ A n, e = .returned (.slice A ms.length n) ∧ Told w w' A ms ∧ Chg [] w w'
theorem MsTo.nil {w w' : World} (h : Chg [] w w') : MsTo w [] (.returned (.slice none 0 0)) w' := ⟨none, 0, rfl, Told.nil _ _, h⟩
theorem MsTo.one {w w1 : World} (h : Chg [] w w1) (m : Ms) : MsTo w [m] (.returned (.slice (some ⟨w1.heap.size, 0, none⟩) 1 1)) (w1.alloc (.cells (msc m) 35)) :=
  ⟨_, 1, rfl, (Told.one w1 m).from h.size, h.alloc _⟩
theorem MsTo.at {w w1 : World} {n : Nat} (h : Chg [] w w1) (m : Ms) (hn : n = w1.heap.size) : MsTo w [m] (.returned (.slice (some ⟨n, 0, none⟩) 1 1)) (w1.alloc (.cells (msc m) 35)) := hn ▸ MsTo.one h m
theorem gwords_any (m : Ms) (x : Slt) (nx : Int) (w : World) : Calls Tryd.prog 43 #[.agg (msc m), .agg (slc x), .int .i64 nx] w fun e w' => e = .returned (.agg (vs (wordsL m x nx))) ∧ Chg [] w w' := by
  have hx8 := x.h
  have hm8 := m.h
  have q : ((nx == 5) = true ∨ ((nx == 5) = false ∧ (nx == 8) = true)) ∨ ((nx == 5) = false ∧ (nx == 8) = false) := by
    cases (nx == 5) <;> cases (nx == 8) <;> simp
  rcases q with q | ⟨q1, q2⟩
  · have e1 : wordsL m x nx = zl8 := by
      unfold wordsL
      rw [if_pos (by rcases q with h | ⟨_, h⟩; exact .inl (by simpa using h); exact .inr (by simpa using h))]
    rw [e1]
    clear e1
    rcases q with q1 | ⟨q1, q2⟩
    all_goals
      go_enter Tryd.func43, Tryd.ntmps43
      try dsimp only [List.append]
      go_wp2_with fail
      refine bodyPost_ret (results_ln1 (by rfl) _ _ (w.heap.size + 2) (zl8) rfl (0, 0) (by rfl) (by simp (maxDischargeDepth := 8) [zl8]; try rfl)) (by rfl) ?_
      exact ⟨rfl, by (repeat' (first | with_reducible exact Chg.refl _ _ | with_reducible assumption | with_reducible refine Chg.drew ?_ | with_reducible refine Chg.drewN ?_ _ | with_reducible refine Chg.alloc ?_ _ | with_reducible refine Chg.putRow ?_ _ _ _ (.inr ?_) | with_reducible refine Chg.setCell ?_ _ _ _ (.inr ?_)  | (show _ ≤ _; first | exact Nat.le_refl _ | omega | (simp; done))))⟩
  · have hn : ¬ (nx = 5 ∨ nx = 8) := by simp at q1 q2; omega
    cases q3 : (m.kd == 13)
    · rw [show wordsL m x nx = m.l by unfold wordsL; rw [if_neg hn, if_neg (by simpa using q3)]]
      clear hn
      go_enter Tryd.func43, Tryd.ntmps43
      try dsimp only [List.append]
      go_wp2_with fail
      refine bodyPost_ret (results_ln1 (by rfl) _ _ (w.heap.size + 2) (m.l) m.h (0, 0) (by rfl) (by simp (maxDischargeDepth := 8); try rfl)) (by rfl) ?_
      exact ⟨rfl, by (repeat' (first | with_reducible exact Chg.refl _ _ | with_reducible assumption | with_reducible refine Chg.drew ?_ | with_reducible refine Chg.drewN ?_ _ | with_reducible refine Chg.alloc ?_ _ | with_reducible refine Chg.putRow ?_ _ _ _ (.inr ?_) | with_reducible refine Chg.setCell ?_ _ _ _ (.inr ?_)  | (show _ ≤ _; first | exact Nat.le_refl _ | omega | (simp; done))))⟩
    · rw [show wordsL m x nx = x.l by unfold wordsL; rw [if_neg hn, if_pos (by simpa using q3)]]
      clear hn
      go_enter Tryd.func43, Tryd.ntmps43
      try dsimp only [List.append]
      go_wp2_with fail
      refine bodyPost_ret (results_ln1 (by rfl) _ _ (w.heap.size + 2) (x.l) x.h (0, 0) (by rfl) (by simp (maxDischargeDepth := 8); try rfl)) (by rfl) ?_
      exact ⟨rfl, by (repeat' (first | with_reducible exact Chg.refl _ _ | with_reducible assumption | with_reducible refine Chg.drew ?_ | with_reducible refine Chg.drewN ?_ _ | with_reducible refine Chg.alloc ?_ _ | with_reducible refine Chg.putRow ?_ _ _ _ (.inr ?_) | with_reducible refine Chg.setCell ?_ _ _ _ (.inr ?_)  | (show _ ≤ _; first | exact Nat.le_refl _ | omega | (simp; done))))⟩

theorem told_ke (kd : Int) (x : Slt) (b : Bool) : (toldM kd x false).putKe b = toldM kd x b := by
  unfold toldM
  split <;> rfl
theorem ganswers_any (kd : Int) (x : Slt) (nx : Int) (w : World) : Calls Tryd.prog 44 #[.int .i64 kd, .agg (slc x), .int .i64 nx] w (MsTo w (answersL kd x nx)) := by
  have hx8 := x.h
  have rX : (w.alloc (.cells (slc x) 72 (0, 0))).heap[w.heap.size]? = some (.cells (slc x) 72 (0, 0)) := by simp
  cases q1 : (kd == 12)
  · cases q2 : (kd == 13)
    · rw [show answersL kd x nx = [] by unfold answersL; rw [if_neg (by simpa using q1), if_neg (by simpa using q2)]]
      go_enter Tryd.func44, Tryd.ntmps44
      try dsimp only [List.append]
      go_wp2_with fail
      go_ret
      exact MsTo.nil (by (repeat' (first | with_reducible exact Chg.refl _ _ | with_reducible assumption | with_reducible refine Chg.drew ?_ | with_reducible refine Chg.drewN ?_ _ | with_reducible refine Chg.alloc ?_ _ | with_reducible refine Chg.putRow ?_ _ _ _ (.inr ?_) | with_reducible refine Chg.setCell ?_ _ _ _ (.inr ?_)  | (show _ ≤ _; first | exact Nat.le_refl _ | omega | (simp; done)))))
    · rw [show answersL kd x nx = [(toldM 7 x false).putKe (nx == 1)] by unfold answersL; rw [if_neg (by simpa using q1), if_pos (by simpa using q2), told_ke]]
      go_enter Tryd.func44, Tryd.ntmps44
      try dsimp only [List.append]
      go_wp2_with fail
      refine (gtold_any 7 x _).mono ?_
      rintro e w2 ⟨rfl, c2⟩
      have C2 : Chg [] w w2 := ((Chg.refl [] w).alloc _).trans c2
      go_wp2_with fail
      go_ret
      exact MsTo.at (C2.alloc (.cells (msc ((toldM 7 x false).putKe (nx == 1))) 35)) _ (by simp)
  · rw [show answersL kd x nx = [toldM 6 x false] by unfold answersL; rw [if_pos (by simpa using q1)]]
    go_enter Tryd.func44, Tryd.ntmps44
    try dsimp only [List.append]
    go_wp2_with fail
    refine (gtold_any 6 x _).mono ?_
    rintro e w2 ⟨rfl, c2⟩
    have C2 : Chg [] w w2 := ((Chg.refl [] w).alloc _).trans c2
    go_wp2_with fail
    go_ret
    exact MsTo.one C2 _
end Go.Proofs.YtadeoflkppiflaaDoor
