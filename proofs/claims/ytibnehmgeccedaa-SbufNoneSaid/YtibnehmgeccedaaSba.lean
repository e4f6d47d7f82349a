/- What the calls of package sbuf answer, and leave: walked. No condition. -/
import Derived.Test.YtibnehmgeccedaaChecked
import Derived.Test.YtibnehmgeccedaaSbm
import Derived.Test.YtibnehmgeccedaaArgs
import Derived.Deep.QuietTactic
import Derived.Deep.RegionHeld3
import Derived.Deep.RegionLaw
import Derived.Deep.RegionWith
import Derived.BigQuiet
import Derived.WalkKit
namespace Go.Proofs.Ytibnehmgeccedaa
open Go.RowKit
set_option linter.unusedVariables false
set_option maxHeartbeats 1000000

theorem wideSe : Wide Try.prog 33 5 := ⟨⟨_, Try.underlying33, by rfl⟩, by kernel_rfl⟩
theorem loadSe (x : Value) : Instr.loadAt 33 x = loadS 33 5 x := rfl
theorem storeSe (x y : Value) : Instr.storeAt 33 x y = storeS 33 5 x y := rfl
theorem wideBuf : Wide Try.prog 64 83 := ⟨⟨_, Try.underlying64, by rfl⟩, by kernel_rfl⟩
theorem loadBuf (x : Value) : Instr.loadAt 64 x = loadS 64 83 x := rfl
theorem storeBuf (x y : Value) : Instr.storeAt 64 x y = storeS 64 83 x y := rfl
theorem zbuf (w : World) : (zeroValue 64).run Try.prog w = .ok (.agg (bfc 0 ringZ 0 0)) w := by kernel_rfl
theorem bfc_setRoom (room : Int) : (bfc 0 ringZ 0 0).setIfInBounds 0 (.int .i64 room) = bfc room ringZ 0 0 := by simp [bfc]
theorem bfc_ne (room : Int) (r : Ring) (f c : Nat) : (bfc room r f c = #[]) = False := by
  simp only [eq_iff_iff, iff_false]
  intro h
  have := congrArg Array.size h
  rw [bfc_size] at this
  cases this
theorem quiet_same12 {P : Program} {f : FuncId} {args : Array Value} {w : World} {n : Nat} {v : Value} (h : Calls P f args (w.drewN n) fun e w' => e = .returned v ∧ w.drewN n = w') : Calls P f args (w.drewN n) fun e w'' => e = .returned v ∧ ∃ m, w'' = w.drewN m :=
  h.mono fun _ _ ⟨he, hm⟩ => ⟨he, n, hm.symm⟩
attribute [local go_sem ↓] append_appS copy_copS clear_clrS make_mkS cell_row frozen_row loadSe storeSe loadBuf storeBuf heap_drew heap_drewN heap_alloc heap_past heap_setCell heap_putRow sec_kd sec_li sec_wo sec_va sec_sn bfc_room bfc_first bfc_count
attribute [local go_sem] rowCell_some rowFrozen_some rowHas_some rowIn_some rowPart_full rowPart_lit rowPut_full rowPut_lit rowSet_some size_putRow wideSe wideBuf run_loadS run_storeS run_appS run_copS run_clrS run_mkS loadW_at storeW_at fit_all fit_le fit_pl one_int one_bool one_pointer one_slice allOne_list putRow_new ne_size1 ne_size2 ne_size3 ne_size4 sec_size sec_one sec_lit sec_z sec_ne sec_set0 sec_set1 sec_set2 sec_set3 sec_set4 seZ_kd seZ_li seZ_wo seZ_va seZ_sn fold_sec bfc_size bfc_one bfc_setFirst bfc_setCount bfc_in bfc_has bfc_part bfc_put bfc_sent
attribute [local simp ↓] heap_drew heap_drewN heap_alloc heap_past heap_setCell heap_putRow
attribute [local simp] rowCell_some rowFrozen_some rowHas_some rowIn_some rowPart_full rowPart_lit rowPut_full rowPut_lit rowSet_some size_putRow fit_all fit_pl putRow_new ne_size1 ne_size2 ne_size3 ne_size4 sec_size bfc_size bfc_setFirst bfc_setCount bfc_has bfc_put bfc_sent
attribute [local go_sem ↓] zbuf
attribute [local go_sem] bfc_setRoom bfc_ne
/-! ### Whether n is from a to b; whether an entry has a form -/
theorem swithin_any (n a b : Int) (w : World) : Calls Try.prog 25 #[.int .i64 n, .int .i64 a, .int .i64 b] w fun e w' => e = .returned (.bool (within12 n a b)) ∧ w = w' := by
  unfold within12
  cases h1 : decide (a ≤ n)
  · go_enter Try.func25, Try.ntmps25
    go_wp2
    go_ret
    exact ⟨rfl, rfl⟩
  · go_enter Try.func25, Try.ntmps25
    go_wp2
    go_ret
    exact ⟨rfl, rfl⟩
theorem snew_bad (room : Int) (w : World) (h : within12 room 1 16 = false) : Calls Try.prog 8 #[.int .i64 room] w fun e w' => e = .returned (.tuple #[.pointer none, .int .i64 1]) ∧ w = w' := by
  go_enter Try.func8, Try.ntmps8
  go_wp2_with (go_at_call 25; refine (swithin_any _ _ _ _).mono ?_; rintro e w' ⟨rfl, rfl⟩)
  go_ret2
  exact ⟨rfl, rfl⟩
theorem snew_ok (room : Int) (w : World) (h : within12 room 1 16 = true) : Calls Try.prog 8 #[.int .i64 room] w fun e w' => e = .returned (.tuple #[.pointer (some ⟨w.heap.size, 0, none⟩), .int .i64 0]) ∧ w' = w.alloc (.cells (bfc room ringZ 0 0) 64) := by
  go_enter Try.func8, Try.ntmps8
  go_wp2_with (go_at_call 25; refine (swithin_any _ _ _ _).mono ?_; rintro e w' ⟨rfl, rfl⟩)
  go_ret2
  exact ⟨rfl, rfl⟩
theorem slen_nil (w : World) : Calls Try.prog 21 #[.pointer none] w fun e w' => e = .returned (.int .i64 0) ∧ w = w' := by
  go_enter Try.func21, Try.ntmps21
  go_wp2
  go_ret
  exact ⟨rfl, rfl⟩
theorem slen_at {w : World} {q : Nat} {room : Int} {r : Ring} {f c : Nat} (hq : w.heap[q]? = some (.cells (bfc room r f c) 64 (0, 0))) : Calls Try.prog 21 #[.pointer (some ⟨q, 0, none⟩)] w fun e w' => e = .returned (.int .i64 c) ∧ w = w' := by
  go_enter Try.func21, Try.ntmps21
  go_wp2
  go_ret
  exact ⟨rfl, rfl⟩
theorem splace_at {w : World} {q : Nat} {room : Int} {r : Ring} {f c n : Nat} (hf : f < 16) (hn : n ≤ 1000) (hq : w.heap[q]? = some (.cells (bfc room r f c) 64 (0, 0))) : Calls Try.prog 29 #[.pointer (some ⟨q, 0, none⟩), .int .i64 n] w fun e w' => e = .returned (.int .i64 (pl f n)) ∧ w = w' := by
  have g1 : (f : Int) < 16 := by omega
  have g2 : (n : Int) ≤ 1000 := by omega
  go_enter Try.func29, Try.ntmps29
  go_wp2
  go_ret
  exact ⟨by rw [show ((f : Int) + n) % 16 = ((pl f n : Nat) : Int) by unfold pl; omega]; rfl, rfl⟩
theorem sat_at {w : World} {q : Nat} {room : Int} {r : Ring} {f c n : Nat} (hf : f < 16) (hn : n ≤ 1000) (hq : w.heap[q]? = some (.cells (bfc room r f c) 64 (0, 0))) : Calls Try.prog 27 #[.pointer (some ⟨q, 0, none⟩), .int .i64 n] w fun e w' => e = .returned (.pointer (some ⟨q, 1 + pl f n * 5, none⟩)) ∧ ∃ m, w' = w.drewN m := by
  have HF := Lib.hid hf
  have HN := Lib.hid hn
  have HQ := Lib.hid hq
  have g1 : ((pl f n : Nat) : Int) < 16 := by have := pl_lt f n; omega
  have g0 : (0 : Int) ≤ ((pl f n : Nat) : Int) := by omega
  clear hf hn
  go_enter Try.func27, Try.ntmps27
  go_wp2_with fail
  go_quiet (first | (go_at_call 29; exact quiet_same12 (splace_at HF.out HN.out HQ.out)))
  go_wp2
  go_ret
  exact ⟨rfl, _, rfl⟩

theorem sat_c {w : World} {q : Nat} {room : Int} {r : Ring} {f c n : Nat} (hf : f < 16) (hn : n ≤ 1000) (hq : w.heap[q]? = some (.cells (bfc room r f c) 64 (0, 0))) : Calls Try.prog 27 #[.pointer (some ⟨q, 0, none⟩), .int .i64 n] w fun e w' => e = .returned (.pointer (some ⟨q, 1 + pl f n * 5, none⟩)) ∧ Chg [] w w' :=
  (sat_at hf hn hq).mono fun _ _ ⟨he, m, hm⟩ => ⟨he, hm ▸ (Chg.refl [] w).drewN m⟩
theorem sgood_any (e : Se) (w : World) : Calls Try.prog 26 #[.agg (sec e)] w fun v w' => v = .returned (.bool (goodSe e)) ∧ Chg [] w w' := by
  cases h1 : within12 e.li 0 63
  · rw [show goodSe e = false by simp [goodSe, h1]]
    go_enter Try.func26, Try.ntmps26
    go_wp2_with (go_at_call 25; refine (swithin_any _ _ _ _).mono ?_; rintro e w' ⟨rfl, rfl⟩)
    go_ret
    exact ⟨rfl, (Chg.refl _ _).alloc _⟩
  cases h2 : e.sn
  case true =>
    rw [show goodSe e = false by simp [goodSe, h2]]
    go_enter Try.func26, Try.ntmps26
    go_wp2_with (go_at_call 25; refine (swithin_any _ _ _ _).mono ?_; rintro e w' ⟨rfl, rfl⟩)
    go_ret
    exact ⟨rfl, (Chg.refl _ _).alloc _⟩
  by_cases k9 : e.kd = 9
  · rw [show goodSe e = within12 e.wo 0 7 by simp [goodSe, h1, h2, k9]]
    have t9 : (e.kd == 9) = true := by simp [k9]
    clear k9
    go_enter Try.func26, Try.ntmps26
    go_wp2_with (go_at_call 25; refine (swithin_any _ _ _ _).mono ?_; rintro e w' ⟨rfl, rfl⟩)
    go_ret
    exact ⟨rfl, (Chg.refl _ _).alloc _⟩
  have t9 : (e.kd == 9) = false := by simpa using k9
  by_cases k3 : e.kd = 12 ∨ e.kd = 13 ∨ e.kd = 14
  · rw [show goodSe e = (e.wo == 0 && e.va == 0) by
      rcases k3 with k | k | k <;> simp [goodSe, h1, h2, k]]
    have h3 : (e.kd == 12) = true ∨ (e.kd == 12) = false ∧ (e.kd == 13) = true ∨ (e.kd == 12) = false ∧ (e.kd == 13) = false ∧ (e.kd == 14) = true := by
      rcases k3 with k | k | k <;> simp [k]
    clear k3 k9
    rcases h3 with t | ⟨t, u⟩ | ⟨t, u, v⟩
    all_goals
      cases h4 : (e.wo == 0)
      · go_enter Try.func26, Try.ntmps26
        go_wp2_with (go_at_call 25; refine (swithin_any _ _ _ _).mono ?_; rintro e w' ⟨rfl, rfl⟩)
        go_ret
        exact ⟨rfl, (Chg.refl _ _).alloc _⟩
      · go_enter Try.func26, Try.ntmps26
        go_wp2_with (go_at_call 25; refine (swithin_any _ _ _ _).mono ?_; rintro e w' ⟨rfl, rfl⟩)
        go_ret
        exact ⟨rfl, (Chg.refl _ _).alloc _⟩
  have ⟨t12, t13, t14⟩ : (e.kd == 12) = false ∧ (e.kd == 13) = false ∧ (e.kd == 14) = false := by simpa using k3
  rw [show goodSe e = false by simp [goodSe, t9, t12, t13, t14]]
  clear k3 k9
  go_enter Try.func26, Try.ntmps26
  go_wp2_with (go_at_call 25; refine (swithin_any _ _ _ _).mono ?_; rintro e w' ⟨rfl, rfl⟩)
  go_ret
  exact ⟨rfl, (Chg.refl _ _).alloc _⟩
theorem results_se2 {fn : Func} {p t : Tmp} (h : fn.results = #[.cell p 33, .tmp t]) (tmps : Array Value) (w : World) (b : Nat) (s : Se) (fr : Nat × Nat)
    (hp : tmps.getD p undef = .pointer (some ⟨b, 0, none⟩)) (hb : w.heap[b]? = some (.cells (sec s) 33 fr)) (x : Value) (hx : tmps.getD t undef = x) :
    (results fn tmps).run Try.prog w = .ok (.tuple #[.agg (sec s), x]) w := by
  subst hx
  have hp' : tmps[p]?.getD undef = .pointer (some ⟨b, 0, none⟩) := by simpa using hp
  have := run_loadVar_row (P := Try.prog) w b 33 33 (sec s) fr _ hb Try.underlying33 rfl (by rw [sec_size]; kernel_rfl)
  simp [results, h, hp', asAddr, this]

/-! ### A buffer: its entries, the first one first -/
def Buf (w : World) (q room : Nat) (es : List Se) : Prop :=
  ∃ (r : Ring) (f : Nat), w.heap[q]? = some (.cells (bfc room r f es.length) 64 (0, 0)) ∧ f < 16 ∧ (∀ n e, es[n]? = some e → r.get (pl f n) = e) ∧ es.length ≤ room ∧ 1 ≤ room ∧ room ≤ 16
theorem Buf.keep {w w' : World} {q room : Nat} {es : List Se} {l : List Nat} (h : Buf w q room es) (hc : Chg l w w') (hq : q ∉ l) : Buf w' q room es := by
  obtain ⟨r, f, h1, h2⟩ := h
  exact ⟨r, f, hc.keep h1 hq, h2⟩
theorem Buf.oldq {w : World} {q room : Nat} {es : List Se} (h : Buf w q room es) : Old w q := by
  obtain ⟨r, f, h1, h2⟩ := h
  exact old h1
theorem Buf.le {w : World} {q room : Nat} {es : List Se} (h : Buf w q room es) : es.length ≤ room ∧ 1 ≤ room ∧ room ≤ 16 := by
  obtain ⟨r, f, _, _, _, h2⟩ := h
  exact h2
theorem snew_buf (room : Nat) (w : World) (h1 : 1 ≤ room) (h2 : room ≤ 16) : Calls Try.prog 8 #[.int .i64 room] w fun e w' => ∃ q, e = .returned (.tuple #[.pointer (some ⟨q, 0, none⟩), .int .i64 0]) ∧ w.heap.size ≤ q ∧ Chg [] w w' ∧ Buf w' q room [] :=
  (snew_ok room w (by simp [within12]; omega)).mono fun _ _ ⟨he, hw⟩ => by
    subst hw
    exact ⟨w.heap.size, he, Nat.le_refl _, (Chg.refl _ _).alloc _, ringZ, 0, by simp, by omega, by simp, by simp, h1, h2⟩
theorem slen_ok {w : World} {q room : Nat} {es : List Se} (h : Buf w q room es) : Calls Try.prog 21 #[.pointer (some ⟨q, 0, none⟩)] w fun e w' => e = .returned (.int .i64 es.length) ∧ w = w' := by
  obtain ⟨r, f, h1, _⟩ := h
  exact slen_at h1
theorem spush_nil (x : Se) (w : World) : Calls Try.prog 10 #[.pointer none, .agg (sec x)] w fun e w' => e = .returned (.int .i64 1) ∧ Chg [] w w' := by
  go_enter Try.func10, Try.ntmps10
  go_wp2
  go_ret
  exact ⟨rfl, (Chg.refl _ _).alloc _⟩
/-- Behind a call that leaves the buffer with these entries. -/
def BufTo (w : World) (q room : Nat) (es : List Se) (v : Value) (e : Ending) (w' : World) : Prop := e = .returned v ∧ Chg [q] w w' ∧ Buf w' q room es
theorem ring_push {r : Ring} {f : Nat} {es : List Se} {x : Se} (h : ∀ n e, es[n]? = some e → r.get (pl f n) = e) (hl : es.length < 16) : ∀ n e, (es ++ [x])[n]? = some e → (r.put (pl f es.length) x).get (pl f n) = e := by
  intro n e hn
  rcases Nat.lt_trichotomy n es.length with h1 | h1 | h1
  · rw [List.getElem?_append_left h1] at hn
    rw [Ring.put_other _ (Ne.symm (pl_ne h1 (by omega)))]
    exact h n e hn
  · subst h1
    simp at hn
    rw [Ring.put_same _ (pl_lt _ _), hn]
  · rw [List.getElem?_eq_none (by simp; omega)] at hn
    cases hn
theorem spush_ok {w : World} {q room : Nat} {es : List Se} (x : Se) (hb : Buf w q room es) : Calls Try.prog 10 #[.pointer (some ⟨q, 0, none⟩), .agg (sec x)] w (BufTo w q room (sbE room es x) (.int .i64 (sbV room es x))) := by
  have HB := Lib.hid hb
  have oq := hb.oldq
  clear hb
  have hx : (w.alloc (.cells (sec x) 33)).heap[w.heap.size]? = some (.cells (sec x) 33 (0, 0)) := by simp
  have HC := Lib.hid ((Chg.refl [] w).alloc (.cells (sec x) 33))
  have ON := Lib.hid (show w.heap.size ≠ q from by have := oq.lt; omega)
  cases hg : goodSe x
  · rw [show sbE room es x = es by simp [sbE, hg], show sbV room es x = 11 by simp [sbV, hg]]
    go_enter Try.func10, Try.ntmps10
    go_wp2_with fail
    refine (sgood_any x _).mono ?_
    rintro e w1 ⟨rfl, c1⟩
    rw [hg]
    go_wp2_with fail
    go_ret
    have := HC.out.trans c1
    exact ⟨rfl, this.mono (by simp), HB.out.keep this (by simp)⟩
  by_cases hr : room ≤ es.length
  · rw [show sbE room es x = es by simp [sbE, hg, hr], show sbV room es x = 13 by simp [sbV, hg, hr]]
    have t3 : decide (room ≤ es.length) = true := by simpa using hr
    clear hr
    go_enter Try.func10, Try.ntmps10
    go_wp2_with fail
    refine (sgood_any x _).mono ?_
    rintro e w1 ⟨rfl, c1⟩
    rw [hg]
    have HC1 := Lib.hid (HC.out.trans c1)
    obtain ⟨r, f, hq, _⟩ := HB.out.keep HC1.out (by simp)
    clear c1
    go_wp2_with fail
    go_quiet (fail)
    go_wp2_with fail
    go_ret
    have := HC1.out.drewN nq
    exact ⟨rfl, this.mono (by simp), HB.out.keep this (by simp)⟩
  · rw [show sbE room es x = es ++ [x] by simp [sbE, hg, hr], show sbV room es x = 0 by simp [sbV, hg, hr]]
    have t3 : decide (room ≤ es.length) = false := by simpa using hr
    have HR := Lib.hid hr
    clear hr
    go_enter Try.func10, Try.ntmps10
    go_wp2_with fail
    refine (sgood_any x _).mono ?_
    rintro e w1 ⟨rfl, c1⟩
    rw [hg]
    have hx1 := c1.keep hx (by simp)
    have HC1 := Lib.hid (HC.out.trans c1)
    clear c1 hx
    generalize w.heap.size = p at hx1 ON ⊢
    obtain ⟨r, f, hq, hf, hall, hle⟩ := HB.out.keep HC1.out (by simp)
    have HF := Lib.hid hf
    have HA := Lib.hid hall
    have HL := Lib.hid hle
    have hn : es.length ≤ 1000 := by omega
    have g2 : (es.length : Int) ≤ 1000 := by omega
    have HN := Lib.hid hn
    clear hf hall hle hn
    go_wp2_with fail
    go_quiet (fail)
    go_wp2_with fail
    have c2 := (Chg.refl [] w1).drewN nq
    have hq2 := c2.keep hq (by simp)
    have hx2 := c2.keep hx1 (by simp)
    have HC2 := Lib.hid (HC1.out.trans c2)
    clear hq hx1 c2
    generalize w1.drewN nq = w2 at hq2 hx2 HC2 ⊢
    have oq2 := old hq2
    have ox2 := old hx2
    go_region_law
      (first | (go_simp; go_at_call 27; refine (sat_c HF.out HN.out ((Chg.refl [] w2).drew.keep hq2 (by simp))).mono ?_; rintro e w3 ⟨rfl, c3⟩; have hq3 := (((Chg.refl [] w2).drew).trans c3).keep hq2 (by simp); have hx3 := (((Chg.refl [] w2).drew).trans c3).keep hx2 (by simp)))
    all_goals
      have hq4 : (putRow w3 q (1 + pl f es.length * 5) (sec x)).heap[q]? = some (.cells (bfc room (r.put (pl f es.length) x) f es.length) 64 (0, 0)) := by
        rw [heap_putRow _ _ _ _ _ (by rw [hq3, sec_size]; exact bfc_has _ _ _ _ _ _), if_pos rfl, hq3, bfc_put]
      have HC4 := Lib.hid (((HC2.out.trans (((Chg.refl [] w2).drew).trans c3)).mono (l' := [q]) (by simp)).putRow q (1 + pl f es.length * 5) (sec x) (.inl (by simp)))
      clear hq2 hx2 hq3 hx3 c3 ox2 oq2
      generalize putRow w3 q (1 + pl f es.length * 5) (sec x) = w4 at hq4 HC4 ⊢
      go_wp2_with fail
      go_ret
      refine ⟨rfl, HC4.out.setCell _ _ _ (.inl (by simp)), r.put (pl f es.length) x, f, ?_, HF.out, ring_push HA.out (by have := HR.out; have := HL.out; omega), ?_, HL.out.2.1, HL.out.2.2⟩
      · rw [heap_setCell, if_pos rfl, hq4, rowSet_some]
        have := bfc_setCount room (r.put (pl f es.length) x) f es.length (es.length + 1)
        rw [show ((es.length : Int) + 1) = ((es.length + 1 : Nat) : Int) by omega, this, List.length_append]
        rfl
      · have := HR.out
        rw [List.length_append]
        simp only [List.length_cons, List.length_nil]
        omega
/-! ### The first entry -/
theorem shead_nil (w : World) : Calls Try.prog 14 #[.pointer none] w fun e w' => e = .returned (.tuple #[.agg (sec seZ), .bool false]) ∧ Chg [] w w' := by
  go_enter Try.func14, Try.ntmps14
  go_wp2_with (go_at_call 21; refine (slen_nil _).mono ?_; rintro e w' ⟨rfl, rfl⟩)
  refine bodyPost_ret (v := .tuple #[.agg (sec seZ), .bool false]) ?_ (by rfl) ?_
  · exact results_se2 (by rfl) _ _ w.heap.size seZ (0, 0) (by rfl) (by simp [*]; try rfl) _ (by rfl)
  exact ⟨rfl, (Chg.refl _ _).alloc _⟩
theorem shead_ok {w : World} {q room : Nat} {es : List Se} (hb : Buf w q room es) : Calls Try.prog 14 #[.pointer (some ⟨q, 0, none⟩)] w fun e w' => e = .returned (.tuple #[.agg (sec (hdE es)), .bool (hdB es)]) ∧ Chg [] w w' := by
  have HB := Lib.hid (hb.keep ((Chg.refl [] w).alloc (.cells (sec seZ) 33)) (by simp))
  have oq := hb.oldq
  clear hb
  rcases es with _ | ⟨x, es⟩
  · go_enter Try.func14, Try.ntmps14
    go_wp2_with (go_at_call 21; refine (slen_ok HB.out).mono ?_; rintro e w' ⟨rfl, rfl⟩)
    refine bodyPost_ret (v := .tuple #[.agg (sec seZ), .bool false]) ?_ (by rfl) ?_
    · exact results_se2 (by rfl) _ _ w.heap.size seZ (0, 0) (by rfl) (by simp [*]; try rfl) _ (by rfl)
    exact ⟨rfl, (Chg.refl _ _).alloc _⟩
  · have t0 : (((x :: es).length : Int) == 0) = false := by simp; omega
    generalize hes : x :: es = ys at HB t0
    have HE := Lib.hid (show ys[0]? = some x by rw [← hes]; rfl)
    have hx : (w.alloc (.cells (sec seZ) 33)).heap[w.heap.size]? = some (.cells (sec seZ) 33 (0, 0)) := by simp
    have HC := Lib.hid ((Chg.refl [] w).alloc (.cells (sec seZ) 33))
    rw [show hdE ys = x by rw [← hes]; rfl, show hdB ys = true by rw [← hes]; rfl]
    clear hes
    go_enter Try.func14, Try.ntmps14
    go_wp2_with fail
    generalize hp : w.heap.size = p at hx ⊢
    have HP := Lib.hid hp
    clear hp
    generalize w.alloc (.cells (sec seZ) 33) = w1 at HB hx HC ⊢
    refine (slen_ok HB.out).mono ?_
    rintro e w' ⟨rfl, rfl⟩
    go_wp2_with fail
    obtain ⟨r, f, hq, hf, hall, _⟩ := HB.out
    refine (sat_c (n := 0) hf (by omega) hq).mono ?_
    rintro e w2 ⟨rfl, c2⟩
    have hg := hall 0 x HE.out
    have hq2 := c2.keep hq (by simp)
    have hx2 := c2.keep hx (by simp)
    have HC2 := Lib.hid (HC.out.trans c2)
    have oq2 := old hq2
    have ox2 := old hx2
    have hpart := bfc_part room r f ys.length 64 (0, 0) 0
    rw [hg] at hpart
    clear hq hx c2 hall hf hg
    go_wp2_with fail
    refine bodyPost_ret (v := .tuple #[.agg (sec x), .bool true]) ?_ (by rfl) ?_
    · exact results_se2 (by rfl) _ _ p x (0, 0) (by rfl) (by simp [*]; try rfl) _ (by rfl)
    exact ⟨rfl, HC2.out.putRow _ _ _ (.inr (by have := HP.out; omega))⟩
end Go.Proofs.Ytibnehmgeccedaa
